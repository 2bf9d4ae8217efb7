/- Texts that the others lean on. -/
import Derived.Laws.OwnMore
import Derived.Test.YtjlaihekocjggaaGreatDoorKMB
set_option maxHeartbeats 16000000
namespace Go.Proofs.YtjlaihekocjggaaGreatDoor
open Go.RowKit
structure Nf where
 x:Int
 k:Int
 p:Int
 o:Bool
 v:Int
 s:Str
 m:Value
 r:Int
 b1:Bool
 b2:Bool
 b3:Bool
 b4:Bool
 n:Value
 c:Value
abbrev Nf.arr (f:Nf):Array Value:=ndA f.x f.k f.p f.o f.v f.s f.m f.r f.b1 f.b2 f.b3 f.b4 f.n f.c
def Slv (v:Value):Prop:=∃ a n c,v = .slice a n c
structure Nf.Ok (f:Nf):Prop where
 m:Slv f.m
 n:Slv f.n
 c:Slv f.c
abbrev Nf.ex (f:Nf):Array Value:=exA f.k f.x f.o f.v f.s f.m f.r f.b1 f.b2 f.b3 f.b4 f.n f.c
theorem zdd (f:Nf) (h:f.Ok) (w:World):Calls Tryz.prog 361 #[.agg f.arr] w fun e w'=>e = .returned (.agg f.ex) ∧ Below w.heap.size w w':=by
 obtain ⟨⟨_,_,_,e1⟩,⟨_,_,_,e2⟩,⟨_,_,_,e3⟩⟩:=h
 unfold Nf.arr Nf.ex
 rw [e1,e2,e3]
 exact znn f.x f.k f.p f.o f.v f.s _ _ _ f.r f.b1 f.b2 f.b3 f.b4 _ _ _ _ _ _ w
theorem zbf {w:World} {a b:Nat} {cs ds:Array Value} {s t:TypeId} (h:w.heap[a]? = some (.cells cs s)) (k:w.heap[b]? = some (.cells ds t)) (hne:s ≠ t):a ≠ b:=by
 rintro rfl
 rw [h] at k
 injection k with k
 injection k with _ e _
 exact hne e
theorem zbl {w w':World} {row:Option Nat} (hg:w.grownBy w' row) {k:Nat} {o:Obj} (h:w.heap[k]? = some o) (hne:some k ≠ row):w'.heap[k]? = some o:=(hg.block k (zah h) hne).trans h
theorem zas {w w':World} {row:Option Nat} (hg:w.grownBy w' row):Off row.toList w w':=⟨hg.os,hg.tape,hg.output,hg.size,fun k hk hx=>hg.block k hk (fun e=>hx (by rw [← e];simp))⟩
theorem zeu {w:World} {base size n:Nat} {e:TypeId} {v:Value} {cs:List Value} (h:w.ownsRow base e size v n cs):∀ g,v.ownBlock = some g → base ≤ g ∧ ∃ cur,w.heap[g]? = some (.cells cur e):=by
 intro g hg
 refine ⟨(World.ownsRow.lt h g hg).1,?_⟩
 rcases h.2 with ⟨rfl,h0⟩ | ⟨g',cap,cur,rfl,hb,hg',_⟩
 ·
  cases hg
 have e:g' = g:=by simpa [Value.ownBlock] using hg
 subst e
 exact ⟨cur,hg'⟩
structure Fl (R:Rc) (wb w:World) (nb br bn:Nat) (f:Nf) (i:Nat) (dp fp fy:Int):Prop where
 rd:Rd R w i dp fp fy
 nd:w.heap[nb]? = some (.cells f.arr 356)
 xr:w.heap[br]? = some (.cells #[R.ptr] 227)
 xn:w.heap[bn]? = some (.cells #[.pointer (some ⟨nb,0,none⟩)] 361)
 off:Off [R.b,nb] wb w
 l1:R.b < wb.heap.size
 l2:nb < wb.heap.size
 ln:R.b < nb
theorem Fl.later {R:Rc} {wb w w':World} {nb br bn:Nat} {f:Nf} {i:Nat} {dp fp fy:Int} (h:Fl R wb w nb br bn f i dp fp fy) (hb:Below w.heap.size w w'):Fl R wb w' nb br bn f i dp fp fy:=
 ⟨h.rd.later hb,zab hb h.nd,zab hb h.xr,zab hb h.xn,h.off.on hb,h.l1,h.l2,h.ln⟩
theorem Fl.read {R:Rc} {wb w w':World} {nb br bn:Nat} {f:Nf} {i j:Nat} {dp fp fy dp' fp' fy':Int} (h:Fl R wb w nb br bn f i dp fp fy) (hr:Rd R w' j dp' fp' fy') (ho:Off [R.b] w w'):Fl R wb w' nb br bn f j dp' fp' fy':=
 ⟨hr,ho.heap h.nd (by have:=h.ln;simp;omega),ho.heap h.xr (by have:=zbf h.xr h.rd.h (by decide);simpa using this),ho.heap h.xn (by have:=zbf h.xn h.rd.h (by decide);simpa using this),h.off.trans ho (by simp),h.l1,h.l2,h.ln⟩
theorem Fl.grown {R:Rc} {wb w w':World} {nb br bn:Nat} {f:Nf} {i:Nat} {dp fp fy:Int} {row:Option Nat} {e:TypeId} (h:Fl R wb w nb br bn f i dp fp fy) (hg:w.grownBy w' row) (hr:∀ g,row = some g → wb.heap.size ≤ g ∧ ∃ cur,w.heap[g]? = some (.cells cur e)) (h84:227 ≠ e) (h180:361 ≠ e):Fl R wb w' nb br bn f i dp fp fy:=by
 have n:∀ k,k < wb.heap.size → some k ≠ row:=fun k hk e=>by have:=(hr k e.symm).1;omega
 have m:∀ {k:Nat} {cs:Array Value} {t:TypeId},w.heap[k]? = some (.cells cs t) → t ≠ e → some k ≠ row:=fun {k} {_} {_} hk ht he=>by
  obtain ⟨_,cur,hc⟩:=hr k he.symm
  exact zbf hk hc ht rfl
 refine ⟨h.rd.off (zas hg) (fun x hx=>?_),zbl hg h.nd (n _ h.l2),zbl hg h.xr (m h.xr h84),zbl hg h.xn (m h.xn h180),h.off.trans (zas hg) (fun y hy=>Or.inr (hr y (by simpa using hy)).1),h.l1,h.l2,h.ln⟩
 have:=(hr x (by simpa using hx)).1
 have:=h.l1
 omega
theorem Fl.node {R:Rc} {wb w w':World} {nb br bn:Nat} {f f':Nf} {i:Nat} {dp fp fy:Int} (h:Fl R wb w nb br bn f i dp fp fy) (hn:w'.heap[nb]? = some (.cells f'.arr 356)) (ho:Off [nb] w w'):Fl R wb w' nb br bn f' i dp fp fy:=
 ⟨h.rd.off ho (by have:=h.ln;simp;omega),hn,ho.heap h.xr (by have:=zbf h.xr h.nd (by decide);simpa using this),ho.heap h.xn (by have:=zbf h.xn h.nd (by decide);simpa using this),h.off.trans ho (by simp),h.l1,h.l2,h.ln⟩
theorem OwnS.kept {w w':World} {X:List Nat} {base:Nat} {v:Value} {l:List Str} (h:OwnS w base v l) (ho:Off X w w') (hX:∀ x ∈ X,x < base):OwnS w' base v l:=by
 refine ⟨h.1,?_⟩
 rcases h.2 with h0 | ⟨g,cap,cur,hv,hg0,hg,hn,hm,hs,ht⟩
 ·
  exact Or.inl h0
 exact Or.inr ⟨g,cap,cur,hv,hg0,ho.heap hg (fun hm=>by have:=hX g hm;omega),hn,hm,hs,ht⟩
def HeldN (nb bn xb:Nat) (t:Str) (W:World):Prop:=W.cell? ⟨bn,0,none⟩ = some (.pointer (some ⟨nb,0,none⟩)) ∧ W.cell? ⟨xb,2,none⟩ = some (tx t)
def HeldM (nb bn xb:Nat) (y:Mt) (W:World):Prop:=W.cell? ⟨bn,0,none⟩ = some (.pointer (some ⟨nb,0,none⟩)) ∧ W.cell? ⟨xb,0,none⟩ = some (tx y.name) ∧ W.cell? ⟨xb,1,none⟩ = some (.int .i64 y.kind) ∧ W.cell? ⟨xb,2,none⟩ = some (tx y.text)
def OwnM (w:World) (base:Nat) (v:Value) (l:List Mt):Prop:=w.ownsRow base 57 3 v l.length (cellsM l)
theorem info75:(Tryz.prog.info? 57).map (fun i=>(i.zero,i.size,i.bytes)) = some (some (.agg #[tx [],.int .i64 0,tx []]),3,40):=by kernel_rfl
theorem zfj:∃ i,Tryz.prog.info? 57 = some i ∧ i.zero = some (.agg #[tx [],.int .i64 0,tx []]) ∧ i.size = 3 ∧ i.bytes = 40:=by
 have h:=info75
 cases hi:Tryz.prog.info? 57 with
 | none=>rw [hi] at h;cases h
 | some i=>
  rw [hi] at h
  simp only [Option.map_some,Option.some.injEq,Prod.mk.injEq] at h
  exact ⟨i,rfl,h.1,h.2.1,h.2.2⟩
theorem OwnM.kept {w w':World} {X:List Nat} {base:Nat} {v:Value} {l:List Mt} (h:OwnM w base v l) (ho:Off X w w') (hX:∀ x ∈ X,x < base):OwnM w' base v l:=by
 refine ⟨h.1,?_⟩
 rcases h.2 with h0 | ⟨g,cap,cur,hv,hg0,hg,hn,hm,hs,ht⟩
 ·
  exact Or.inl h0
 exact Or.inr ⟨g,cap,cur,hv,hg0,ho.heap hg (fun hm=>by have:=hX g hm;omega),hn,hm,hs,ht⟩
theorem OwnM.later {w w':World} {base:Nat} {v:Value} {l:List Mt} (h:OwnM w base v l) (hb:Below w.heap.size w w'):OwnM w' base v l:=h.kept (Off.of hb []) (fun _ hx=>by cases hx)
theorem OwnM.snoc {w:World} {base:Nat} {v:Value} {l:List Mt} {y:Mt} (h:w.ownsRow base 57 3 v (l.length + 1) (cellsM l ++ [tx y.name,.int .i64 y.kind,tx y.text])):OwnM w base v (l ++ [y]):=by
 unfold OwnM
 rw [List.length_append,show cellsM (l ++ [y]) = cellsM l ++ [tx y.name,.int .i64 y.kind,tx y.text] by simp [cellsM]]
 exact h
theorem OwnM.nil (w:World) (base:Nat):OwnM w base (.slice none 0 0) []:=⟨rfl,Or.inl ⟨rfl,rfl⟩⟩
theorem OwnS.nil (w:World) (base:Nat):OwnS w base (.slice none 0 0) []:=⟨rfl,Or.inl ⟨rfl,rfl⟩⟩
theorem zcu (l:List Mt):(cellsM l).length = l.length * 3:=by
 induction l with
 | nil=>rfl
 | cons p l ih=>
  show ([tx p.name,.int .i64 p.kind,tx p.text] ++ cellsM l).length = _
  simp only [List.length_append,ih,List.length_cons,List.length_nil]
  omega
theorem zag (w:World):Below w.heap.size w w.drew:=(Below.refl _ _).drew
set_option maxRecDepth 20000 in
theorem nm1_any (R:Rc) {wb w:World} {nb br bn:Nat} {f:Nf} {i:Nat} {dp fp fy:Int} {an:Option Addr} {n cn:Nat} (acc:List Str) (hfn:f.n = .slice an n cn) (HL:Hid (acc.length = n)) (hn:n ≤ 1000000) (h:Fl R wb w nb br bn f i dp fp fy) (ho:OwnS w wb.heap.size (.slice an n cn) acc) (P:Tk → Bool → Nat → Int → Int → Prop)
  (ht:Calls Tryz.prog 417 #[R.ptr,.int .i64 1] w fun e w'=>∃ x ok j fp' fy',P x ok j fp' fy' ∧ e = .returned (.tuple #[tv x,.bool ok]) ∧ Rd R w' j dp fp' fy' ∧ Off [R.b] w w') :
  Calls Tryz.prog 416 #[.pointer (some ⟨br,0,none⟩),.pointer (some ⟨bn,0,none⟩)] w fun e w'=>∃ x ok j fp' fy' ao cap,P x ok j fp' fy' ∧ e = .returned (.bool ok) ∧ Fl R wb w' nb br bn { f with n:=.slice ao (n + 1) cap } j dp fp' fy' ∧ OwnS w' wb.heap.size (.slice ao (n + 1) cap) (acc ++ [x.t]):=by
 obtain ⟨i0,hi,hz0,hz1,hz2⟩:=zbz
 have hbs:=h.off.size
 have hln:=h.l2
 have c0:=(zaa h.xr 0).trans rfl
 go_enter Tryz.func416,Tryz.ntmps416
 go_wp2_with fail
 refine ht.mono ?_
 rintro e w2 ⟨x,ok,j,fp',fy',hP0,rfl,hR2,o2⟩
 have hP:Hid _:=hP0
 clear hP0
 have F2:=h.read hR2 o2
 have ho2:=ho.kept o2 (by have:=h.l1;simp;omega)
 have xb3:=zac w2 (.cells (tcs x) 161)
 have B2:=bal (Below.refl w2.heap.size w2) (.cells (tcs x) 161)
 have F3:=F2.later B2
 have ho3:=ho2.later B2
 have hsz:=o2.size
 have hx9:some w2.heap.size ≠ (Value.slice an n cn).ownBlock:=fun e=>by have:=(World.ownsRow.lt ho2 _ e.symm).2;omega
 go_upto_region 2 with fail
 generalize w2.alloc (.cells (tcs x) 161) = w3 at *
 have F4:=F3.later (zag w3)
 have xb4:=zab (zag w3) xb3
 have o4:=ho3.later (zag w3)
 have B4:=zag w3
 have S4:HeldN nb bn w2.heap.size x.t _:=⟨(zaa F4.xn 0).trans rfl,(zaa xb4 2).trans rfl⟩
 refine wp_region_noPanic ?_
 refine wp_region_held_drew (S:=HeldN nb bn w2.heap.size x.t) (by kernel_rfl) ?_ (fun _=>?_)
 ·
  exact S4
 generalize w3.drew = w4 at *
 refine tk 0 10 (.pointer (some ⟨nb,0,none⟩)) rfl (fun W hSw=>by (obtain ⟨s1,s2⟩:=hSw;go_simp)) S4 ?_
 simp only [Act.put,pB,pC,pD]
 refine tk 1 11 (.pointer (some ⟨nb,0,none⟩)) rfl (fun W hSw=>by (obtain ⟨s1,s2⟩:=hSw;go_simp)) S4 ?_
 simp only [Act.put,pB,pC,pD]
 refine tk 2 12 (.pointer (some ⟨nb,0,none⟩)) rfl (fun W hSw=>by (obtain ⟨s1,s2⟩:=hSw;go_simp)) S4 ?_
 simp only [Act.put,pB,pC,pD]
 refine tk 3 13 (.pointer (some ⟨nb,1,none⟩)) rfl (fun W hSw=>by (obtain ⟨s1,s2⟩:=hSw;go_simp)) S4 ?_
 simp only [Act.put,pB,pC,pD]
 refine tk 4 14 (.pointer (some ⟨nb,12,none⟩)) rfl (fun W hSw=>by (obtain ⟨s1,s2⟩:=hSw;go_simp)) S4 ?_
 simp only [Act.put,pB,pC,pD]
 refine tk 6 16 (.pointer (some ⟨w2.heap.size,2,none⟩)) rfl (fun W hSw=>by (obtain ⟨s1,s2⟩:=hSw;go_simp)) S4 ?_
 simp only [Act.put,pB,pC,pD]
 refine tk 7 17 (tx x.t) rfl (fun W hSw=>by (obtain ⟨s1,s2⟩:=hSw;go_simp)) S4 ?_
 simp only [Act.put,pB,pC,pD]
 refine wpAnyH_ready (rs:=[5,8]) (by kernel_rfl) (by simp) ?_
 refine AllReadyH.cons rfl (fun K hK=>?_) (AllReadyH.cons rfl (fun K hK=>?_) AllReadyH.nil)
 ·
  have k5:=(zaa F4.nd 12).trans rfl
  go_simp
  refine hK.out _ _ ?_ (fun _=>?_)
  ·
   exact S4
  clear hK K
  refine wpAnyH_ready (rs:=[8]) (by kernel_rfl) (by simp) ?_
  refine aR rfl fun K hK=>?_
  have n5:=zac w4 (.cells #[tx x.t] 9)
  have B5:=bal (Below.refl w4.heap.size w4) (.cells #[tx x.t] 9)
  have F5:=F4.later B5
  have xb5:=zab B5 xb4
  have o5:=o4.later B5
  have S5:HeldN nb bn w2.heap.size x.t _:=⟨(zaa F5.xn 0).trans rfl,(zaa xb5 2).trans rfl⟩
  go_simp
  generalize w4.alloc (.cells #[tx x.t] 9) = w5 at *
  refine hK.out _ _ ?_ (fun _=>?_)
  ·
   exact S5
  clear hK K
  refine wpAnyH_ready (rs:=[9]) (by kernel_rfl) (by simp) ?_
  refine aR rfl fun K hK=>?_
  refine zbq _ _ (some 19) 25 rfl rfl (by rfl) wb.heap.size 9 i0 (tx []) 1 16 Tryz.underlying25 hi hz0 hz1 hz2 rfl (by decide) (.slice an n cn) n (acc.map tx) rfl (by have:=o5;unfold OwnS at this;rw [HL.out] at this;exact this) ⟨w4.heap.size,0,none⟩ 1 1 [tx x.t] rfl rfl ?hnews ?hone ?h63 ?hby ?hbs ?_
  case hnews=>
   intro j u hu
   rw [Addr.add_lit,Nat.zero_add,zaa n5 j]
   simpa using hu
  case hone=>
   intro u hu
   rw [List.mem_singleton.1 hu]
   rfl
  case h63=>unfold maxLen;omega
  case hby=>omega
  case hbs=>exact F5.off.size
  intro v' w6 own6 hg6
  have F6:=F5.grown hg6 (zeu o5) (by decide) (by decide)
  have xb6:=zbl hg6 xb5 hx9
  have S6:HeldN nb bn w2.heap.size x.t _:=⟨(zaa F6.xn 0).trans rfl,(zaa xb6 2).trans rfl⟩
  obtain ⟨ao,cap,rfl⟩:∃ ao cap,v' = .slice ao (n + 1) cap:=by
   rcases own6.2 with ⟨e,h0⟩ | ⟨g,cap,cur,e,_⟩
   ·
    omega
   exact ⟨_,_,e⟩
  refine hK.out _ _ ?_ (fun _=>?_)
  ·
   exact S6
  clear hK K
  refine tk 10 20 (.pointer (some ⟨nb,0,none⟩)) rfl (fun W hSw=>by (obtain ⟨s1,s2⟩:=hSw;go_simp)) S6 ?_
  simp only [Act.put,pB,pC,pD]
  refine tk 11 21 (.pointer (some ⟨nb,1,none⟩)) rfl (fun W hSw=>by (obtain ⟨s1,s2⟩:=hSw;go_simp)) S6 ?_
  simp only [Act.put,pB,pC,pD]
  refine tk 12 22 (.pointer (some ⟨nb,12,none⟩)) rfl (fun W hSw=>by (obtain ⟨s1,s2⟩:=hSw;go_simp)) S6 ?_
  simp only [Act.put,pB,pC,pD]
  refine wpAnyH_ready (rs:=[13]) (by kernel_rfl) (by simp) ?_
  refine aR rfl fun K hK=>?_
  have k12:=(zaa F6.nd 12).trans rfl
  have f12:=zce F6.nd 12
  have s7:=zbe F6.nd 12 (.slice ao (n + 1) cap)
  have z7:=zbr w6 nb 12 (.slice ao (n + 1) cap)
  have F7:=F6.node (f':={ f with n:=.slice ao (n + 1) cap }) s7 z7
  have xb7:=z7.heap xb6 (by simp;omega)
  have S7:HeldN nb bn w2.heap.size x.t _:=⟨(zaa F7.xn 0).trans rfl,(zaa xb7 2).trans rfl⟩
  have own7:OwnS (w6.setCell ⟨nb,12,none⟩ (.slice ao (n + 1) cap)) wb.heap.size (.slice ao (n + 1) cap) (acc ++ [x.t]):=OwnS.kept (OwnS.snoc (by rw [HL.out];exact own6)) z7 (by have:=F6.l2;simp;omega)
  go_simp
  generalize w6.setCell ⟨nb,12,none⟩ (.slice ao (n + 1) cap) = w7 at *
  refine hK.out _ _ ?_ (fun _=>?_)
  ·
   exact S7
  clear hK K
  refine wpAnyH_done (by kernel_rfl) ?_ _
  refine NoPanic.normal ?_
  go_wp2_with fail
  go_ret
  exact ⟨x,ok,j,fp',fy',ao,cap,hP.out,rfl,F7,own7⟩
 have n5:=zac w4 (.cells #[tx x.t] 9)
 have B5:=bal (Below.refl w4.heap.size w4) (.cells #[tx x.t] 9)
 have F5:=F4.later B5
 have xb5:=zab B5 xb4
 have o5:=o4.later B5
 have S5:HeldN nb bn w2.heap.size x.t _:=⟨(zaa F5.xn 0).trans rfl,(zaa xb5 2).trans rfl⟩
 go_simp
 generalize w4.alloc (.cells #[tx x.t] 9) = w5 at *
 refine hK.out _ _ ?_ (fun _=>?_)
 ·
  exact S5
 clear hK K
 refine wpAnyH_ready (rs:=[5]) (by kernel_rfl) (by simp) ?_
 refine aR rfl fun K hK=>?_
 have k5:=(zaa F5.nd 12).trans rfl
 go_simp
 refine hK.out _ _ ?_ (fun _=>?_)
 ·
  exact S5
 clear hK K
 refine wpAnyH_ready (rs:=[9]) (by kernel_rfl) (by simp) ?_
 refine aR rfl fun K hK=>?_
 refine zbq _ _ (some 19) 25 rfl rfl (by rfl) wb.heap.size 9 i0 (tx []) 1 16 Tryz.underlying25 hi hz0 hz1 hz2 rfl (by decide) (.slice an n cn) n (acc.map tx) rfl (by have:=o5;unfold OwnS at this;rw [HL.out] at this;exact this) ⟨w4.heap.size,0,none⟩ 1 1 [tx x.t] rfl rfl ?hnews ?hone ?h63 ?hby ?hbs ?_
 case hnews=>
  intro j u hu
  rw [Addr.add_lit,Nat.zero_add,zaa n5 j]
  simpa using hu
 case hone=>
  intro u hu
  rw [List.mem_singleton.1 hu]
  rfl
 case h63=>unfold maxLen;omega
 case hby=>omega
 case hbs=>exact F5.off.size
 intro v' w6 own6 hg6
 have F6:=F5.grown hg6 (zeu o5) (by decide) (by decide)
 have xb6:=zbl hg6 xb5 hx9
 have S6:HeldN nb bn w2.heap.size x.t _:=⟨(zaa F6.xn 0).trans rfl,(zaa xb6 2).trans rfl⟩
 obtain ⟨ao,cap,rfl⟩:∃ ao cap,v' = .slice ao (n + 1) cap:=by
  rcases own6.2 with ⟨e,h0⟩ | ⟨g,cap,cur,e,_⟩
  ·
   omega
  exact ⟨_,_,e⟩
 refine hK.out _ _ ?_ (fun _=>?_)
 ·
  exact S6
 clear hK K
 refine tk 10 20 (.pointer (some ⟨nb,0,none⟩)) rfl (fun W hSw=>by (obtain ⟨s1,s2⟩:=hSw;go_simp)) S6 ?_
 simp only [Act.put,pB,pC,pD]
 refine tk 11 21 (.pointer (some ⟨nb,1,none⟩)) rfl (fun W hSw=>by (obtain ⟨s1,s2⟩:=hSw;go_simp)) S6 ?_
 simp only [Act.put,pB,pC,pD]
 refine tk 12 22 (.pointer (some ⟨nb,12,none⟩)) rfl (fun W hSw=>by (obtain ⟨s1,s2⟩:=hSw;go_simp)) S6 ?_
 simp only [Act.put,pB,pC,pD]
 refine wpAnyH_ready (rs:=[13]) (by kernel_rfl) (by simp) ?_
 refine aR rfl fun K hK=>?_
 have k12:=(zaa F6.nd 12).trans rfl
 have f12:=zce F6.nd 12
 have s7:=zbe F6.nd 12 (.slice ao (n + 1) cap)
 have z7:=zbr w6 nb 12 (.slice ao (n + 1) cap)
 have F7:=F6.node (f':={ f with n:=.slice ao (n + 1) cap }) s7 z7
 have xb7:=z7.heap xb6 (by simp;omega)
 have S7:HeldN nb bn w2.heap.size x.t _:=⟨(zaa F7.xn 0).trans rfl,(zaa xb7 2).trans rfl⟩
 have own7:OwnS (w6.setCell ⟨nb,12,none⟩ (.slice ao (n + 1) cap)) wb.heap.size (.slice ao (n + 1) cap) (acc ++ [x.t]):=OwnS.kept (OwnS.snoc (by rw [HL.out];exact own6)) z7 (by have:=F6.l2;simp;omega)
 go_simp
 generalize w6.setCell ⟨nb,12,none⟩ (.slice ao (n + 1) cap) = w7 at *
 refine hK.out _ _ ?_ (fun _=>?_)
 ·
  exact S7
 clear hK K
 refine wpAnyH_done (by kernel_rfl) ?_ _
 refine NoPanic.normal ?_
 go_wp2_with fail
 go_ret
 exact ⟨x,ok,j,fp',fy',ao,cap,hP.out,rfl,F7,own7⟩
set_option maxRecDepth 20000 in
theorem br1_any (R:Rc) {wb w:World} {nb br bn:Nat} {f:Nf} {i:Nat} {dp fp fy:Int} {an:Option Addr} {n cn:Nat} (acc:List Mt) (hfn:f.m = .slice an n cn) (HL:Hid (acc.length = n)) (hn:n ≤ 1000000) (h:Fl R wb w nb br bn f i dp fp fy) (ho:OwnM w wb.heap.size (.slice an n cn) acc) (P:Mt → Bool → Nat → Int → Int → Prop)
  (ht:Calls Tryz.prog 427 #[R.ptr] w fun e w'=>∃ y ok j fp' fy',P y ok j fp' fy' ∧ e = .returned (.tuple #[av y,.bool ok]) ∧ Rd R w' j dp fp' fy' ∧ Off [R.b] w w') :
  Calls Tryz.prog 426 #[.pointer (some ⟨br,0,none⟩),.pointer (some ⟨bn,0,none⟩)] w fun e w'=>∃ y ok j fp' fy' ao cap,P y ok j fp' fy' ∧ e = .returned (.bool ok) ∧ Fl R wb w' nb br bn { f with m:=.slice ao (n + 1) cap } j dp fp' fy' ∧ OwnM w' wb.heap.size (.slice ao (n + 1) cap) (acc ++ [y]):=by
 obtain ⟨i0,hi,hz0,hz1,hz2⟩:=zfj
 have hbs:=h.off.size
 have hln:=h.l2
 have c0:=(zaa h.xr 0).trans rfl
 go_enter Tryz.func426,Tryz.ntmps426
 go_wp2_with fail
 refine ht.mono ?_
 rintro e w2 ⟨y,ok,j,fp',fy',hP0,rfl,hR2,o2⟩
 have hP:Hid _:=hP0
 clear hP0
 have F2:=h.read hR2 o2
 have ho2:=ho.kept o2 (by have:=h.l1;simp;omega)
 have xb3:=zac w2 (.cells #[tx y.name,.int .i64 y.kind,tx y.text] 57)
 have B2:=bal (Below.refl w2.heap.size w2) (.cells #[tx y.name,.int .i64 y.kind,tx y.text] 57)
 have F3:=F2.later B2
 have ho3:=ho2.later B2
 have hsz:=o2.size
 have hx9:some w2.heap.size ≠ (Value.slice an n cn).ownBlock:=fun e=>by have:=(World.ownsRow.lt ho2 _ e.symm).2;omega
 go_upto_region 2 with fail
 generalize w2.alloc (.cells #[tx y.name,.int .i64 y.kind,tx y.text] 57) = w3 at *
 have F4:=F3.later (zag w3)
 have xb4:=zab (zag w3) xb3
 have o4:=ho3.later (zag w3)
 have B4:=zag w3
 have S4:HeldM nb bn w2.heap.size y _:=⟨(zaa F4.xn 0).trans rfl,(zaa xb4 0).trans rfl,(zaa xb4 1).trans rfl,(zaa xb4 2).trans rfl⟩
 refine wp_region_noPanic ?_
 refine wp_region_held_drew (S:=HeldM nb bn w2.heap.size y) (by kernel_rfl) ?_ (fun _=>?_)
 ·
  exact S4
 generalize w3.drew = w4 at *
 refine tk 0 10 (.pointer (some ⟨nb,0,none⟩)) rfl (fun W hSw=>by (obtain ⟨s1,s2,s3,s4⟩:=hSw;go_simp)) S4 ?_
 simp only [Act.put,pB,pC,pD]
 refine tk 1 11 (.pointer (some ⟨nb,0,none⟩)) rfl (fun W hSw=>by (obtain ⟨s1,s2,s3,s4⟩:=hSw;go_simp)) S4 ?_
 simp only [Act.put,pB,pC,pD]
 refine tk 2 12 (.pointer (some ⟨nb,0,none⟩)) rfl (fun W hSw=>by (obtain ⟨s1,s2,s3,s4⟩:=hSw;go_simp)) S4 ?_
 simp only [Act.put,pB,pC,pD]
 refine tk 3 13 (.pointer (some ⟨nb,1,none⟩)) rfl (fun W hSw=>by (obtain ⟨s1,s2,s3,s4⟩:=hSw;go_simp)) S4 ?_
 simp only [Act.put,pB,pC,pD]
 refine tk 4 14 (.pointer (some ⟨nb,6,none⟩)) rfl (fun W hSw=>by (obtain ⟨s1,s2,s3,s4⟩:=hSw;go_simp)) S4 ?_
 simp only [Act.put,pB,pC,pD]
 refine tk 6 16 (av y) rfl (fun W hSw=>by (obtain ⟨s1,s2,s3,s4⟩:=hSw;go_simp)) S4 ?_
 simp only [Act.put,pB,pC,pD]
 refine wpAnyH_ready (rs:=[5,7]) (by kernel_rfl) (by simp) ?_
 refine AllReadyH.cons rfl (fun K hK=>?_) (AllReadyH.cons rfl (fun K hK=>?_) AllReadyH.nil)
 ·
  have k5:=(zaa F4.nd 6).trans rfl
  go_simp
  refine hK.out _ _ ?_ (fun _=>?_)
  ·
   exact S4
  clear hK K
  refine wpAnyH_ready (rs:=[7]) (by kernel_rfl) (by simp) ?_
  refine aR rfl fun K hK=>?_
  have n5:=zac w4 (.cells #[tx y.name,.int .i64 y.kind,tx y.text] 57)
  have B5:=bal (Below.refl w4.heap.size w4) (.cells #[tx y.name,.int .i64 y.kind,tx y.text] 57)
  have F5:=F4.later B5
  have xb5:=zab B5 xb4
  have o5:=o4.later B5
  have S5:HeldM nb bn w2.heap.size y _:=⟨(zaa F5.xn 0).trans rfl,(zaa xb5 0).trans rfl,(zaa xb5 1).trans rfl,(zaa xb5 2).trans rfl⟩
  go_simp
  generalize w4.alloc (.cells #[tx y.name,.int .i64 y.kind,tx y.text] 57) = w5 at *
  refine hK.out _ _ ?_ (fun _=>?_)
  ·
   exact S5
  clear hK K
  refine wpAnyH_ready (rs:=[8]) (by kernel_rfl) (by simp) ?_
  refine aR rfl fun K hK=>?_
  refine zbq _ _ (some 18) 24 rfl rfl (by rfl) wb.heap.size 57 i0 (.agg #[tx [],.int .i64 0,tx []]) 3 40 Tryz.underlying24 hi hz0 hz1 hz2 rfl (by decide) (.slice an n cn) n (cellsM acc) rfl (by have:=o5;unfold OwnM at this;rw [HL.out] at this;exact this) ⟨w4.heap.size,0,none⟩ 1 1 [tx y.name,.int .i64 y.kind,tx y.text] rfl rfl ?hnews ?hone ?h63 ?hby ?hbs ?_
  case hnews=>
   intro j u hu
   rw [Addr.add_lit,Nat.zero_add,zaa n5 j]
   simpa using hu
  case hone=>
   intro u hu
   simp only [List.mem_cons,List.not_mem_nil,or_false] at hu
   rcases hu with rfl | rfl | rfl <;> rfl
  case h63=>unfold maxLen;omega
  case hby=>omega
  case hbs=>exact F5.off.size
  intro v' w6 own6 hg6
  have F6:=F5.grown hg6 (zeu o5) (by decide) (by decide)
  have xb6:=zbl hg6 xb5 hx9
  have S6:HeldM nb bn w2.heap.size y _:=⟨(zaa F6.xn 0).trans rfl,(zaa xb6 0).trans rfl,(zaa xb6 1).trans rfl,(zaa xb6 2).trans rfl⟩
  obtain ⟨ao,cap,rfl⟩:∃ ao cap,v' = .slice ao (n + 1) cap:=by
   rcases own6.2 with ⟨e,h0⟩ | ⟨g,cap,cur,e,_⟩
   ·
    omega
   exact ⟨_,_,e⟩
  refine hK.out _ _ ?_ (fun _=>?_)
  ·
   exact S6
  clear hK K
  refine tk 9 19 (.pointer (some ⟨nb,0,none⟩)) rfl (fun W hSw=>by (obtain ⟨s1,s2,s3,s4⟩:=hSw;go_simp)) S6 ?_
  simp only [Act.put,pB,pC,pD]
  refine tk 10 20 (.pointer (some ⟨nb,1,none⟩)) rfl (fun W hSw=>by (obtain ⟨s1,s2,s3,s4⟩:=hSw;go_simp)) S6 ?_
  simp only [Act.put,pB,pC,pD]
  refine tk 11 21 (.pointer (some ⟨nb,6,none⟩)) rfl (fun W hSw=>by (obtain ⟨s1,s2,s3,s4⟩:=hSw;go_simp)) S6 ?_
  simp only [Act.put,pB,pC,pD]
  refine wpAnyH_ready (rs:=[12]) (by kernel_rfl) (by simp) ?_
  refine aR rfl fun K hK=>?_
  have k12:=(zaa F6.nd 6).trans rfl
  have f12:=zce F6.nd 6
  have s7:=zbe F6.nd 6 (.slice ao (n + 1) cap)
  have z7:=zbr w6 nb 6 (.slice ao (n + 1) cap)
  have F7:=F6.node (f':={ f with m:=.slice ao (n + 1) cap }) s7 z7
  have xb7:=z7.heap xb6 (by simp;omega)
  have S7:HeldM nb bn w2.heap.size y _:=⟨(zaa F7.xn 0).trans rfl,(zaa xb7 0).trans rfl,(zaa xb7 1).trans rfl,(zaa xb7 2).trans rfl⟩
  have own7:OwnM (w6.setCell ⟨nb,6,none⟩ (.slice ao (n + 1) cap)) wb.heap.size (.slice ao (n + 1) cap) (acc ++ [y]):=OwnM.kept (OwnM.snoc (by rw [HL.out];exact own6)) z7 (by have:=F6.l2;simp;omega)
  go_simp
  generalize w6.setCell ⟨nb,6,none⟩ (.slice ao (n + 1) cap) = w7 at *
  refine hK.out _ _ ?_ (fun _=>?_)
  ·
   exact S7
  clear hK K
  refine wpAnyH_done (by kernel_rfl) ?_ _
  refine NoPanic.normal ?_
  go_wp2_with fail
  go_ret
  exact ⟨y,ok,j,fp',fy',ao,cap,hP.out,rfl,F7,own7⟩
 have n5:=zac w4 (.cells #[tx y.name,.int .i64 y.kind,tx y.text] 57)
 have B5:=bal (Below.refl w4.heap.size w4) (.cells #[tx y.name,.int .i64 y.kind,tx y.text] 57)
 have F5:=F4.later B5
 have xb5:=zab B5 xb4
 have o5:=o4.later B5
 have S5:HeldM nb bn w2.heap.size y _:=⟨(zaa F5.xn 0).trans rfl,(zaa xb5 0).trans rfl,(zaa xb5 1).trans rfl,(zaa xb5 2).trans rfl⟩
 go_simp
 generalize w4.alloc (.cells #[tx y.name,.int .i64 y.kind,tx y.text] 57) = w5 at *
 refine hK.out _ _ ?_ (fun _=>?_)
 ·
  exact S5
 clear hK K
 refine wpAnyH_ready (rs:=[5]) (by kernel_rfl) (by simp) ?_
 refine aR rfl fun K hK=>?_
 have k5:=(zaa F5.nd 6).trans rfl
 go_simp
 refine hK.out _ _ ?_ (fun _=>?_)
 ·
  exact S5
 clear hK K
 refine wpAnyH_ready (rs:=[8]) (by kernel_rfl) (by simp) ?_
 refine aR rfl fun K hK=>?_
 refine zbq _ _ (some 18) 24 rfl rfl (by rfl) wb.heap.size 57 i0 (.agg #[tx [],.int .i64 0,tx []]) 3 40 Tryz.underlying24 hi hz0 hz1 hz2 rfl (by decide) (.slice an n cn) n (cellsM acc) rfl (by have:=o5;unfold OwnM at this;rw [HL.out] at this;exact this) ⟨w4.heap.size,0,none⟩ 1 1 [tx y.name,.int .i64 y.kind,tx y.text] rfl rfl ?hnews ?hone ?h63 ?hby ?hbs ?_
 case hnews=>
  intro j u hu
  rw [Addr.add_lit,Nat.zero_add,zaa n5 j]
  simpa using hu
 case hone=>
  intro u hu
  simp only [List.mem_cons,List.not_mem_nil,or_false] at hu
  rcases hu with rfl | rfl | rfl <;> rfl
 case h63=>unfold maxLen;omega
 case hby=>omega
 case hbs=>exact F5.off.size
 intro v' w6 own6 hg6
 have F6:=F5.grown hg6 (zeu o5) (by decide) (by decide)
 have xb6:=zbl hg6 xb5 hx9
 have S6:HeldM nb bn w2.heap.size y _:=⟨(zaa F6.xn 0).trans rfl,(zaa xb6 0).trans rfl,(zaa xb6 1).trans rfl,(zaa xb6 2).trans rfl⟩
 obtain ⟨ao,cap,rfl⟩:∃ ao cap,v' = .slice ao (n + 1) cap:=by
  rcases own6.2 with ⟨e,h0⟩ | ⟨g,cap,cur,e,_⟩
  ·
   omega
  exact ⟨_,_,e⟩
 refine hK.out _ _ ?_ (fun _=>?_)
 ·
  exact S6
 clear hK K
 refine tk 9 19 (.pointer (some ⟨nb,0,none⟩)) rfl (fun W hSw=>by (obtain ⟨s1,s2,s3,s4⟩:=hSw;go_simp)) S6 ?_
 simp only [Act.put,pB,pC,pD]
 refine tk 10 20 (.pointer (some ⟨nb,1,none⟩)) rfl (fun W hSw=>by (obtain ⟨s1,s2,s3,s4⟩:=hSw;go_simp)) S6 ?_
 simp only [Act.put,pB,pC,pD]
 refine tk 11 21 (.pointer (some ⟨nb,6,none⟩)) rfl (fun W hSw=>by (obtain ⟨s1,s2,s3,s4⟩:=hSw;go_simp)) S6 ?_
 simp only [Act.put,pB,pC,pD]
 refine wpAnyH_ready (rs:=[12]) (by kernel_rfl) (by simp) ?_
 refine aR rfl fun K hK=>?_
 have k12:=(zaa F6.nd 6).trans rfl
 have f12:=zce F6.nd 6
 have s7:=zbe F6.nd 6 (.slice ao (n + 1) cap)
 have z7:=zbr w6 nb 6 (.slice ao (n + 1) cap)
 have F7:=F6.node (f':={ f with m:=.slice ao (n + 1) cap }) s7 z7
 have xb7:=z7.heap xb6 (by simp;omega)
 have S7:HeldM nb bn w2.heap.size y _:=⟨(zaa F7.xn 0).trans rfl,(zaa xb7 0).trans rfl,(zaa xb7 1).trans rfl,(zaa xb7 2).trans rfl⟩
 have own7:OwnM (w6.setCell ⟨nb,6,none⟩ (.slice ao (n + 1) cap)) wb.heap.size (.slice ao (n + 1) cap) (acc ++ [y]):=OwnM.kept (OwnM.snoc (by rw [HL.out];exact own6)) z7 (by have:=F6.l2;simp;omega)
 go_simp
 generalize w6.setCell ⟨nb,6,none⟩ (.slice ao (n + 1) cap) = w7 at *
 refine hK.out _ _ ?_ (fun _=>?_)
 ·
  exact S7
 clear hK K
 refine wpAnyH_done (by kernel_rfl) ?_ _
 refine NoPanic.normal ?_
 go_wp2_with fail
 go_ret
 exact ⟨y,ok,j,fp',fy',ao,cap,hP.out,rfl,F7,own7⟩
theorem zbw {ops:Array Oper} {o:Oper} {a:Act} {W:World} {K:Act → World → Prop} {Q:Exit → Act → World → Prop} {E:Prop} (ty:TypeId) (x y:Operand) (d:Option Tmp) (ho:o.op = .store ty x y) (hd:o.dst = d) (hw:Region.wanted o (yielded ops a.tmps) = true) (g:Nat) (cs:Array Value)
  (hx:a.eval x = .pointer (some ⟨g,0,none⟩)) (hy:a.eval y = .agg cs) (old:Array Value) (t:TypeId) (hold:W.heap[g]? = some (.cells old t)) (n:Nat) (hi:(Tryz.prog.info? ty).map (·.size) = some n) (ho1:old.size = n) (hr:Row n cs)
  (h:∀ W',W'.heap[g]? = some (.cells cs t) → Off [g] W W' → W'.heap.size = W.heap.size → K (a.put d undef) W'):if Region.wanted o (yielded ops a.tmps) = true then Oper.wp Tryz.prog o a W K Q else E:=by
 subst hd
 rw [if_pos hw]
 exact wp_store_row ty x y ho g cs hx hy t old hold (by rw [hi,hr.1]) (by rw [ho1,hr.1]) hr.all (h _ (zia hold) (zkw _ _ _) (by simp [World.setRow]))
theorem zar {a:Act} {o:Oper} (ty:TypeId) (x:Operand) (ho:o.op = .load ty x) (g:Nat) (cs:Array Value) (t:TypeId) (hx:a.eval x = .pointer (some ⟨g,0,none⟩)) (W:World) (hold:W.heap[g]? = some (.cells cs t)) (d:TypeDesc) (hu:Tryz.prog.underlying ty = some d) (hd:d.isRow = true) (n:Nat) (hi:(Tryz.prog.info? ty).map (·.size) = some n) (hn:cs.size = n) :
  (execOp a.eval o).run Tryz.prog W = .ok (.value (.agg cs)) W:=by
 have hc:W.rangeAt g 0 cs.toList:=fun j v hv=>by
  rw [Nat.zero_add,zaa hold]
  simpa using hv
 unfold execOp
 simp only [ho,hx,Instr.loadAt,Instr.sureAddr,Sem.run_bind,Sem.run_pure,Result.andThen_ok,run_loadVar_mid W g 0 ty cs.toList d hc hu hd (by rw [hi,← hn];simp)]
def mz:Mt:=⟨[],0,[]⟩
abbrev mA (y:Mt):Array Value:=#[tx y.name,.int .i64 y.kind,tx y.text]
def HeldT (b1 b2 b3:Nat) (t1 t2 t3:Str) (W:World):Prop:=W.cell? ⟨b1,2,none⟩ = some (tx t1) ∧ W.cell? ⟨b2,2,none⟩ = some (tx t2) ∧ W.cell? ⟨b3,2,none⟩ = some (tx t3)
def mtOut (R:Rc) (w:World) (dp fp fy:Int) (i:Nat) (res:Rs Mt) (e:Ending) (w':World):Prop:=
 match res with
 | .inr x=>e = .returned (.tuple #[av x.1,.bool true]) ∧ x.2 = R.T.drop (i + 3) ∧ Rd R w' (i + 3) dp fp fy ∧ Off [R.b] w w'
 | .inl er=>∃ y j,e = .returned (.tuple #[av y,.bool false]) ∧ Rd R w' j dp er.1 er.2 ∧ Off [R.b] w w'
set_option maxRecDepth 20000 in
theorem zlf (R:Rc) {w:World} {i:Nat} {dp fp fy:Int} (h:Rd R w i dp fp fy):Calls Tryz.prog 427 #[R.ptr] w (mtOut R w dp fp fy i (mtI R.q (R.T.drop i))):=by
 have hbl:=h.bl
 have h0:=h.later (bal (Below.refl _ _) (.cells (mA mz) 57))
 have r0:=zac w (.cells (mA mz) 57)
 have O0:=(Off.refl [R.b] w).new (.cells (mA mz) 57)
 have z0:=zbd w (.cells (mA mz) 57)
 simp only [mz,mA] at h0 r0 O0 z0
 by_cases hk:(hd R.q (R.T.drop i)).k = 1
 ·
  have ht:=zcq R 1 h0 hk (by decide)
  have HE:Hid (mtI R.q (R.T.drop i) = if (hd R.q (R.T.drop (i + 1))).k ≠ 5 ∨ mkd (hd R.q (R.T.drop (i + 1))).t = 0 then .inl (bad R.q (R.T.drop (i + 1)) 71) else if (hd R.q (R.T.drop (i + 2))).k ≠ 4 then .inl (bad R.q (R.T.drop (i + 2)) 71) else .inr (⟨(hd R.q (R.T.drop i)).t,mkd (hd R.q (R.T.drop (i + 1))).t,(hd R.q (R.T.drop (i + 2))).t⟩,R.T.drop (i + 3))):=by
   show _ = _
   unfold mtI
   rw [if_neg (fun e=>e hk),List.tail_drop,List.tail_drop,List.tail_drop]
  clear hk
  generalize hx1:hd R.q (R.T.drop i) = x1 at *
  clear hx1
  go_enter Tryz.func427,Tryz.ntmps427
  go_wp2_with fail
  refine ht.mono ?_
  rintro e w1 ⟨rfl,R1,o1⟩
  have r1:=o1.heap r0 (by simp;omega)
  have O1:=O0.then o1
  have z1:=o1.size
  have q1:=zac w1 (.cells (tcs x1) 161)
  have B1:=bal (Below.refl w1.heap.size w1) (.cells (tcs x1) 161)
  have R1':=R1.later B1
  have r1':=zab B1 r1
  have O1':=O1.on B1
  have y1:=zbd w1 (.cells (tcs x1) 161)
  have ha:=zao R R1'
  clear ht h0 r0 O0 o1 R1 r1 O1 B1
  go_wp2_with fail
  refine ha.mono ?_
  rintro e w2 ⟨rfl,b2⟩
  generalize hx2:hd R.q (R.T.drop (i + 1)) = x2 at *
  have R2:=R1'.later b2
  have r2:=zab b2 r1'
  have q1b:=zab b2 q1
  have O2:=O1'.on b2
  have z2:=b2.size
  have q2:=zac w2 (.cells (tcs x2) 161)
  have B2:=bal (Below.refl w2.heap.size w2) (.cells (tcs x2) 161)
  have R2':=R2.later B2
  have r2':=zab B2 r2
  have q1c:=zab B2 q1b
  have O2':=O2.on B2
  have y2:=zbd w2 (.cells (tcs x2) 161)
  have hmk:=fun W=>mkd_any x2.t W
  clear ha R1' r1' O1' q1 b2 R2 r2 q1b O2 B2
  go_upto_region 5 with fail
  generalize w2.alloc (.cells (tcs x2) 161) = w3 at *
  have k0:=(zaa q2 0).trans rfl
  have k2:=(zaa q2 2).trans rfl
  by_cases h5:x2.k = 5
  ·
   have t5:(x2.k != 5) = false:=by rw [bne_eq_false_iff_eq];exact h5
   generalize hkd:mkd x2.t = kd at *
   by_cases h6:kd = 0
   ·
    have HX:Hid (mtI R.q (R.T.drop i) = .inl (x2.p,71)):=by
     show _ = _
     rw [HE.out,if_pos (Or.inr h6),bad,hx2]
    subst h6
    have hf:=fun W (hW:Rd R W (i + 1) dp fp fy)=>zba R 71 hW
    rw [hx2] at hf
    clear HE hx2 hkd h5
    go_wp2_with fail
    refine (hmk _).mono ?_
    rintro e w4 ⟨rfl,rfl⟩
    go_wp2_with fail
    refine (hf _ R2').mono ?_
    rintro e w4 ⟨rfl,R4,o4⟩
    have r4:=o4.heap r2' (by simp;omega)
    have O4:=O2'.then o4
    go_wp2_with (refine zad rfl 57 _ _ rfl w.heap.size (mA mz) rfl rfl _ 57 r4 3 zex rfl ⟨rfl,rfl⟩ ?_;intro w5 r5 o5 z5)
    rw [HX.out]
    exact bodyPost_ret (zai Tryz.results427 _ _ w.heap.size 57 (mA mz) _ rfl r5 Tryz.underlying57 rfl 3 zex rfl) rfl ⟨mz,i + 1,rfl,R4.off o5 (by simp;omega),O4.trans o5 (by simp)⟩
   have t6:(kd == 0) = false:=beq_eq_false_iff_ne.2 h6
   have HF:Hid (mtI R.q (R.T.drop i) = if (hd R.q (R.T.drop (i + 2))).k ≠ 4 then .inl (bad R.q (R.T.drop (i + 2)) 71) else .inr (⟨x1.t,kd,(hd R.q (R.T.drop (i + 2))).t⟩,R.T.drop (i + 3))):=by
    show _ = _
    rw [HE.out,if_neg (by rintro (e | e);exact e h5;exact h6 e)]
   have hi1:=zih R2' (by rw [hx2,h5];decide)
   have htk:=fun W (hW:Rd R W (i + 1) dp fp fy)=>zbo R hW hi1
   rw [hx2] at htk
   clear HE hx2 hkd h5 h6
   go_wp2_with fail
   refine (hmk _).mono ?_
   rintro e w4 ⟨rfl,rfl⟩
   go_wp2_with fail
   refine (htk _ R2').mono ?_
   rintro e w4 ⟨rfl,R4,o4⟩
   have r4:=o4.heap r2' (by simp;omega)
   have p1:=o4.heap q1c (by simp;omega)
   have p2:=o4.heap q2 (by simp;omega)
   have O4:=O2'.then o4
   have z4:=o4.size
   clear htk R2' r2' q1c q2 O2' o4 k0 k2
   by_cases h4:(hd R.q (R.T.drop (i + 2))).k = 4
   ·
    have HX:Hid (mtI R.q (R.T.drop i) = .inr (⟨x1.t,kd,(hd R.q (R.T.drop (i + 2))).t⟩,R.T.drop (i + 3))):=by
     show _ = _
     rw [HF.out,if_neg (fun e=>e h4)]
    have ht:=zcq R 4 R4 h4 (by decide)
    clear HF h4
    generalize hd R.q (R.T.drop (i + 2)) = x3 at *
    go_wp2_with fail
    refine ht.mono ?_
    rintro e w4 ⟨rfl,R5,o5⟩
    have r4':=o5.heap r4 (by simp;omega)
    have p1':=o5.heap p1 (by simp;omega)
    have p2':=o5.heap p2 (by simp;omega)
    have O4':=O4.then o5
    have z4':=o5.size
    have q3:=zac w4 (.cells (tcs x3) 161)
    have B5:=bal (Below.refl w4.heap.size w4) (.cells (tcs x3) 161)
    have R5:=R5.later B5
    have r5:=zab B5 r4'
    have q1:=zab B5 p1'
    have q2:=zab B5 p2'
    have O5:=O4'.on B5
    clear ht r4' p1' p2' O4' o5 B5 R4 r4 p1 p2 O4
    go_upto_region 9 with fail
    generalize w4.alloc (.cells (tcs x3) 161) = w5 at *
    have D5:=zag w5
    have S5:HeldT w1.heap.size w2.heap.size w4.heap.size x1.t x2.t x3.t (World.drew w5):=⟨(zaa (zab D5 q1) 2).trans rfl,(zaa (zab D5 q2) 2).trans rfl,(zaa (zab D5 q3) 2).trans rfl⟩
    have R6:=R5.later D5
    have O6:=O5.on D5
    have r6:=zab D5 r5
    have q1':=zab D5 q1
    have q2':=zab D5 q2
    have q3':=zab D5 q3
    refine wp_region_noPanic ?_
    refine wp_region_held_drew (S:=HeldT w1.heap.size w2.heap.size w4.heap.size x1.t x2.t x3.t) (by kernel_rfl) ?_ (fun _=>?_)
    ·
     exact S5
    generalize w5.drew = w6 at *
    refine tk 0 37 (.pointer (some ⟨w1.heap.size,2,none⟩)) rfl (fun W hSw=>by (obtain ⟨s1,s2,s3⟩:=hSw;go_simp)) S5 ?_
    simp only [Act.put,pB,pC,pD]
    refine tk 1 38 (tx x1.t) rfl (fun W hSw=>by (obtain ⟨s1,s2,s3⟩:=hSw;go_simp)) S5 ?_
    simp only [Act.put,pB,pC,pD]
    refine tk 2 39 (.pointer (some ⟨w2.heap.size,2,none⟩)) rfl (fun W hSw=>by (obtain ⟨s1,s2,s3⟩:=hSw;go_simp)) S5 ?_
    simp only [Act.put,pB,pC,pD]
    refine tk 3 40 (tx x2.t) rfl (fun W hSw=>by (obtain ⟨s1,s2,s3⟩:=hSw;go_simp)) S5 ?_
    simp only [Act.put,pB,pC,pD]
    refine tk 5 42 (.pointer (some ⟨w4.heap.size,2,none⟩)) rfl (fun W hSw=>by (obtain ⟨s1,s2,s3⟩:=hSw;go_simp)) S5 ?_
    simp only [Act.put,pB,pC,pD]
    refine tk 6 43 (tx x3.t) rfl (fun W hSw=>by (obtain ⟨s1,s2,s3⟩:=hSw;go_simp)) S5 ?_
    simp only [Act.put,pB,pC,pD]
    refine tk 8 45 (.bool true) rfl (fun W hSw=>by (obtain ⟨s1,s2,s3⟩:=hSw;go_simp)) S5 ?_
    simp only [Act.put,pB,pC,pD]
    refine wpAnyH_ready (rs:=[4]) (by kernel_rfl) (by simp) ?_
    refine aR rfl fun K hK=>?_
    go_simp
    refine (hmk _).mono ?_
    rintro e w7 ⟨rfl,rfl⟩
    refine hK.out _ _ ?_ (fun _=>?_)
    ·
     exact S5
    clear hK K
    refine tk 7 44 (av ⟨x1.t,kd,x3.t⟩) rfl (fun W hSw=>by (obtain ⟨s1,s2,s3⟩:=hSw;go_simp)) S5 ?_
    simp only [Act.put,pB,pC,pD]
    refine wpAnyH_ready (rs:=[9]) (by kernel_rfl) (by simp) ?_
    refine aR rfl fun K hK=>?_
    refine zbw 57 _ _ none rfl rfl (by rfl) w.heap.size (mA ⟨x1.t,kd,x3.t⟩) rfl rfl _ 57 r6 3 zex rfl ⟨rfl,rfl⟩ ?_
    intro w8 r8 O8 z8
    have S8:HeldT w1.heap.size w2.heap.size w4.heap.size x1.t x2.t x3.t w8:=⟨(zaa (O8.heap q1' (by simp;omega)) 2).trans rfl,(zaa (O8.heap q2' (by simp;omega)) 2).trans rfl,(zaa (O8.heap q3' (by simp;omega)) 2).trans rfl⟩
    refine hK.out _ _ ?_ (fun _=>?_)
    ·
     exact S8
    clear hK K
    refine tk 10 3 (.bool true) rfl (fun W hSw=>by (obtain ⟨s1,s2,s3⟩:=hSw;go_simp)) S8 ?_
    simp only [Act.put,pB,pC,pD]
    refine wpAnyH_done (by kernel_rfl) ?_ _
    refine NoPanic.normal ?_
    go_wp2_with fail
    rw [HX.out]
    exact bodyPost_ret (zai Tryz.results427 _ _ w.heap.size 57 (mA ⟨x1.t,kd,x3.t⟩) _ rfl r8 Tryz.underlying57 rfl 3 zex rfl) rfl ⟨rfl,rfl,R6.off O8 (by simp;omega),O6.trans O8 (by simp)⟩
   have HX:Hid (mtI R.q (R.T.drop i) = .inl ((hd R.q (R.T.drop (i + 2))).p,71)):=by
    show _ = _
    rw [HF.out,if_pos h4]
    rfl
   have ht:=zcv R 4 R4 h4
   clear HF h4
   generalize (hd R.q (R.T.drop (i + 2))).p = x3p at *
   obtain ⟨x3,hx3⟩:∃ x3,x3 = tk0:=⟨_,rfl⟩
   rw [← hx3] at ht
   clear hx3
   go_wp2_with fail
   refine ht.mono ?_
   rintro e w4 ⟨rfl,R5,o5⟩
   have r4':=o5.heap r4 (by simp;omega)
   have p1':=o5.heap p1 (by simp;omega)
   have p2':=o5.heap p2 (by simp;omega)
   have O4':=O4.then o5
   have z4':=o5.size
   have q3:=zac w4 (.cells (tcs x3) 161)
   have B5:=bal (Below.refl w4.heap.size w4) (.cells (tcs x3) 161)
   have R5:=R5.later B5
   have r5:=zab B5 r4'
   have q1:=zab B5 p1'
   have q2:=zab B5 p2'
   have O5:=O4'.on B5
   clear ht r4' p1' p2' O4' o5 B5 R4 r4 p1 p2 O4
   go_upto_region 9 with fail
   generalize w4.alloc (.cells (tcs x3) 161) = w5 at *
   have D5:=zag w5
   have S5:HeldT w1.heap.size w2.heap.size w4.heap.size x1.t x2.t x3.t (World.drew w5):=⟨(zaa (zab D5 q1) 2).trans rfl,(zaa (zab D5 q2) 2).trans rfl,(zaa (zab D5 q3) 2).trans rfl⟩
   have R6:=R5.later D5
   have O6:=O5.on D5
   have r6:=zab D5 r5
   have q1':=zab D5 q1
   have q2':=zab D5 q2
   have q3':=zab D5 q3
   refine wp_region_noPanic ?_
   refine wp_region_held_drew (S:=HeldT w1.heap.size w2.heap.size w4.heap.size x1.t x2.t x3.t) (by kernel_rfl) ?_ (fun _=>?_)
   ·
    exact S5
   generalize w5.drew = w6 at *
   refine tk 0 37 (.pointer (some ⟨w1.heap.size,2,none⟩)) rfl (fun W hSw=>by (obtain ⟨s1,s2,s3⟩:=hSw;go_simp)) S5 ?_
   simp only [Act.put,pB,pC,pD]
   refine tk 1 38 (tx x1.t) rfl (fun W hSw=>by (obtain ⟨s1,s2,s3⟩:=hSw;go_simp)) S5 ?_
   simp only [Act.put,pB,pC,pD]
   refine tk 2 39 (.pointer (some ⟨w2.heap.size,2,none⟩)) rfl (fun W hSw=>by (obtain ⟨s1,s2,s3⟩:=hSw;go_simp)) S5 ?_
   simp only [Act.put,pB,pC,pD]
   refine tk 3 40 (tx x2.t) rfl (fun W hSw=>by (obtain ⟨s1,s2,s3⟩:=hSw;go_simp)) S5 ?_
   simp only [Act.put,pB,pC,pD]
   refine tk 5 42 (.pointer (some ⟨w4.heap.size,2,none⟩)) rfl (fun W hSw=>by (obtain ⟨s1,s2,s3⟩:=hSw;go_simp)) S5 ?_
   simp only [Act.put,pB,pC,pD]
   refine tk 6 43 (tx x3.t) rfl (fun W hSw=>by (obtain ⟨s1,s2,s3⟩:=hSw;go_simp)) S5 ?_
   simp only [Act.put,pB,pC,pD]
   refine tk 8 45 (.bool false) rfl (fun W hSw=>by (obtain ⟨s1,s2,s3⟩:=hSw;go_simp)) S5 ?_
   simp only [Act.put,pB,pC,pD]
   refine wpAnyH_ready (rs:=[4]) (by kernel_rfl) (by simp) ?_
   refine aR rfl fun K hK=>?_
   go_simp
   refine (hmk _).mono ?_
   rintro e w7 ⟨rfl,rfl⟩
   refine hK.out _ _ ?_ (fun _=>?_)
   ·
    exact S5
   clear hK K
   refine tk 7 44 (av ⟨x1.t,kd,x3.t⟩) rfl (fun W hSw=>by (obtain ⟨s1,s2,s3⟩:=hSw;go_simp)) S5 ?_
   simp only [Act.put,pB,pC,pD]
   refine wpAnyH_ready (rs:=[9]) (by kernel_rfl) (by simp) ?_
   refine aR rfl fun K hK=>?_
   refine zbw 57 _ _ none rfl rfl (by rfl) w.heap.size (mA ⟨x1.t,kd,x3.t⟩) rfl rfl _ 57 r6 3 zex rfl ⟨rfl,rfl⟩ ?_
   intro w8 r8 O8 z8
   have S8:HeldT w1.heap.size w2.heap.size w4.heap.size x1.t x2.t x3.t w8:=⟨(zaa (O8.heap q1' (by simp;omega)) 2).trans rfl,(zaa (O8.heap q2' (by simp;omega)) 2).trans rfl,(zaa (O8.heap q3' (by simp;omega)) 2).trans rfl⟩
   refine hK.out _ _ ?_ (fun _=>?_)
   ·
    exact S8
   clear hK K
   refine tk 10 3 (.bool false) rfl (fun W hSw=>by (obtain ⟨s1,s2,s3⟩:=hSw;go_simp)) S8 ?_
   simp only [Act.put,pB,pC,pD]
   refine wpAnyH_done (by kernel_rfl) ?_ _
   refine NoPanic.normal ?_
   go_wp2_with fail
   rw [HX.out]
   exact bodyPost_ret (zai Tryz.results427 _ _ w.heap.size 57 (mA ⟨x1.t,kd,x3.t⟩) _ rfl r8 Tryz.underlying57 rfl 3 zex rfl) rfl ⟨⟨x1.t,kd,x3.t⟩,i + 2,rfl,R6.off O8 (by simp;omega),O6.trans O8 (by simp)⟩
  have t5:(x2.k != 5) = true:=by rw [bne_iff_ne];exact h5
  have HX:Hid (mtI R.q (R.T.drop i) = .inl (x2.p,71)):=by
   show _ = _
   rw [HE.out,if_pos (Or.inl h5),bad,hx2]
  have hf:=fun W (hW:Rd R W (i + 1) dp fp fy)=>zba R 71 hW
  rw [hx2] at hf
  clear HE hx2 h5
  go_wp2_with fail
  refine (hf _ R2').mono ?_
  rintro e w4 ⟨rfl,R4,o4⟩
  have r4:=o4.heap r2' (by simp;omega)
  have O4:=O2'.then o4
  go_wp2_with (refine zad rfl 57 _ _ rfl w.heap.size (mA mz) rfl rfl _ 57 r4 3 zex rfl ⟨rfl,rfl⟩ ?_;intro w5 r5 o5 z5)
  rw [HX.out]
  exact bodyPost_ret (zai Tryz.results427 _ _ w.heap.size 57 (mA mz) _ rfl r5 Tryz.underlying57 rfl 3 zex rfl) rfl ⟨mz,i + 1,rfl,R4.off o5 (by simp;omega),O4.trans o5 (by simp)⟩
 have ht:=zcv R 1 h0 hk
 have HX:Hid (mtI R.q (R.T.drop i) = .inl ((hd R.q (R.T.drop i)).p,71)):=by
  show _ = _
  unfold mtI
  rw [if_pos hk]
  rfl
 clear hk
 obtain ⟨x0,hx0⟩:∃ x0,x0 = tk0:=⟨_,rfl⟩
 rw [← hx0] at ht
 clear hx0
 go_enter Tryz.func427,Tryz.ntmps427
 go_wp2_with fail
 refine ht.mono ?_
 rintro e w1 ⟨rfl,R1,o1⟩
 have r1:=o1.heap r0 (by simp;omega)
 have O1:=O0.then o1
 have z1:=o1.size
 have B1:=bal (Below.refl w1.heap.size w1) (.cells (tcs x0) 161)
 have R1':=R1.later B1
 have r1':=zab B1 r1
 have O1':=O1.on B1
 clear ht h0 r0 O0 o1 R1 r1 O1 B1
 go_upto_region 3 with fail
 generalize w1.alloc (.cells (tcs x0) 161) = w3 at *
 go_wp2_with (refine zad rfl 57 _ _ rfl w.heap.size (mA mz) rfl rfl _ 57 r1' 3 zex rfl ⟨rfl,rfl⟩ ?_;intro w5 r5 o5 z5)
 rw [HX.out]
 exact bodyPost_ret (zai Tryz.results427 _ _ w.heap.size 57 (mA mz) _ rfl r5 Tryz.underlying57 rfl 3 zex rfl) rfl ⟨mz,i,rfl,R1'.off o5 (by simp;omega),O1'.trans o5 (by simp)⟩
def posOf (R:Rc) (w:World):Nat:=match w.cell? ⟨R.b,1,none⟩ with
 | some (.int _ i)=>i.toNat
 | _=>0
theorem Rd.pos {R:Rc} {w:World} {i:Nat} {dp fp fy:Int} (h:Rd R w i dp fp fy):posOf R w = i:=by
 unfold posOf
 rw [h.c1]
 simp
def itNOut (R:Rc) (wb:World) (nb br bn:Nat) (f:Nf) (dp:Int) (i n:Nat) (acc:List Str) (res:Rs Str) (e:Ending) (w':World):Prop:=
 match res with
 | .inr x=>∃ ao cap j fp fy,e = .returned (.bool true) ∧ x.2 = R.T.drop j ∧ i < j ∧ Fl R wb w' nb br bn { f with n:=.slice ao (n + 1) cap } j dp fp fy ∧ OwnS w' wb.heap.size (.slice ao (n + 1) cap) (acc ++ [x.1])
 | .inl er=>∃ ao cap j,e = .returned (.bool false) ∧ Fl R wb w' nb br bn { f with n:=.slice ao (n + 1) cap } j dp er.1 er.2
theorem itN_any (R:Rc) {wb w:World} {nb br bn:Nat} {f:Nf} {i:Nat} {dp fp fy:Int} {an:Option Addr} {n cn:Nat} (acc:List Str) (hfn:f.n = .slice an n cn) (HL:Hid (acc.length = n)) (hn:n ≤ 1000000) (h:Fl R wb w nb br bn f i dp fp fy) (ho:OwnS w wb.heap.size (.slice an n cn) acc):Calls Tryz.prog 416 #[.pointer (some ⟨br,0,none⟩),.pointer (some ⟨bn,0,none⟩)] w (itNOut R wb nb br bn f dp i n acc (nmI R.q (R.T.drop i))):=by
 unfold nmI
 by_cases hk:(hd R.q (R.T.drop i)).k = 1
 ·
  rw [if_pos hk,List.tail_drop]
  refine (nm1_any R acc hfn HL hn h ho (fun x ok j _ _=>x = hd R.q (R.T.drop i) ∧ ok = true ∧ j = i + 1) ((zcq R 1 h.rd hk (by decide)).mono fun e w' hq=>⟨_,_,_,_,_,⟨rfl,rfl,rfl⟩,hq⟩)).mono ?_
  rintro e w1 ⟨x,ok,j,fp',fy',ao,cap,⟨rfl,rfl,rfl⟩,rfl,F,own⟩
  exact ⟨ao,cap,i + 1,_,_,rfl,rfl,by omega,F,own⟩
 rw [if_neg hk]
 refine (nm1_any R acc hfn HL hn h ho (fun _ ok j fp' fy'=>ok = false ∧ j = i ∧ fp' = (hd R.q (R.T.drop i)).p ∧ fy' = 71) ((zcv R 1 h.rd hk).mono fun e w' hq=>⟨_,_,_,_,_,⟨rfl,rfl,rfl,rfl⟩,hq⟩)).mono ?_
 rintro e w1 ⟨x,ok,j,fp',fy',ao,cap,⟨rfl,rfl,rfl,rfl⟩,rfl,F,own⟩
 exact ⟨ao,cap,_,rfl,F⟩
theorem few_s (R:Rc) {wb w:World} {nb br bn:Nat} {f:Nf} {i:Nat} {dp fp fy:Int} {an:Option Addr} {n cn:Nat} (acc:List Str) (hfn:f.n = .slice an n cn) (HL:Hid (acc.length = n)) (hn:n ≤ 1000000) (h:Fl R wb w nb br bn f i dp fp fy) (ho:OwnS w wb.heap.size (.slice an n cn) acc) :
  Calls Tryz.prog 418 #[.pointer (some ⟨bn,0,none⟩)] w fun e w'=>e = .returned (.bool (fewN acc)) ∧ w = w':=by
 obtain ⟨ao,cap,e,hss,hcap,_⟩:=ho.slice
 injection e with e1 e2 e3
 subst e1 e3
 rw [HL.out] at hss hcap
 have hf:=znl an n cn acc w (by omega) hcap hss
 have c0:=(zaa h.xn 0).trans rfl
 have c1:w.cell? ⟨nb,12,none⟩ = some (.slice an n cn):=(zaa h.nd 12).trans (by rw [← hfn];rfl)
 clear h ho hss e2
 go_enter Tryz.func418,Tryz.ntmps418
 go_wp2_with fail
 refine hf.mono ?_
 rintro e w1 ⟨rfl,rfl⟩
 go_wp2_with fail
 go_ret
 exact ⟨rfl,rfl⟩
def listNOut (R:Rc) (wb:World) (nb br bn:Nat) (f:Nf) (dp:Int) (res:Rs (List Str)) (e:Ending) (w':World):Prop:=
 match res with
 | .inr x=>∃ an n cn j fp fy,e = .returned (.bool true) ∧ x.2 = R.T.drop j ∧ Fl R wb w' nb br bn { f with n:=.slice an n cn } j dp fp fy ∧ OwnS w' wb.heap.size (.slice an n cn) x.1
 | .inl er=>∃ an n cn j,e = .returned (.bool false) ∧ Fl R wb w' nb br bn { f with n:=.slice an n cn } j dp er.1 er.2
set_option maxRecDepth 20000 in
theorem listN_any (R:Rc) {wb w:World} {nb br bn:Nat} {f:Nf} {i:Nat} {dp fp fy:Int} {an:Option Addr} {n cn:Nat} (acc:List Str) (hfn:f.n = .slice an n cn) (HL:Hid (acc.length = n)) (h:Fl R wb w nb br bn f i dp fp fy) (ho:OwnS w wb.heap.size (.slice an n cn) acc) (hni:n ≤ i) :
  Calls Tryz.prog 415 #[R.ptr,tx [40],tx [41],.func (.func 416) #[] #[.pointer (some ⟨br,0,none⟩),.pointer (some ⟨bn,0,none⟩)],.func (.func 418) #[] #[.pointer (some ⟨bn,0,none⟩)]] w (listNOut R wb nb br bn f dp (if sg (hd R.q (R.T.drop i)) [40] = true then lsF R.q [41] (nmI R.q) fewN ((R.T.drop i).length + 1) true acc (R.T.drop (i + 1)) else .inl (bad R.q (R.T.drop i) 71))):=by
 obtain ⟨g,hg⟩:∃ g,g = { f with n:=nl }:=⟨_,rfl⟩
 have hfg:f = { g with n:=.slice an n cn }:=by rw [hg,← hfn]
 have hgo:∀ v,{ f with n:=v } = ({ g with n:=v }:Nf):=fun v=>by rw [hg]
 have hpost:∀ res e w',listNOut R wb nb br bn g dp res e w' → listNOut R wb nb br bn f dp res e w':=fun res e w' hq=>by
  unfold listNOut at hq ⊢
  simp only [hgo]
  exact hq
 rw [hfg] at h
 clear hg hgo hfn
 refine Calls.mono (R:=listNOut R wb nb br bn g dp _) ?_ (hpost _)
 clear hpost hfg
 cases hs:sg (hd R.q (R.T.drop i)) [40] with
 | false=>
  rw [if_neg (by simp)]
  have ht:=zbp R [40] h.rd hs
  clear hs
  go_enter Tryz.func415,Tryz.ntmps415
  go_wp2_with fail
  refine ht.mono ?_
  rintro e w1 ⟨rfl,R1,o1⟩
  have F1:=h.read R1 o1
  clear ht
  go_wp2_with fail
  go_ret
  exact ⟨an,n,cn,i,rfl,F1⟩
 | true=>
  rw [if_pos rfl]
  have hi:=zgp h.rd hs
  have ht:=zaz R [40] h.rd hs
  have HLT:Hid (R.T.length = R.n):=h.rd.ts.1
  rw [List.length_drop,HLT.out]
  generalize hres:lsF R.q [41] (nmI R.q) fewN (R.n - i + 1) true acc (R.T.drop (i + 1)) = RES at *
  have HR1:Hid (RES = lsF R.q [41] (nmI R.q) fewN (R.n - i + 1) true acc (R.T.drop (i + 1))):=hres.symm
  clear hs hres HLT
  go_enter Tryz.func415,Tryz.ntmps415
  go_wp2_with fail
  refine ht.mono ?_
  rintro e w1 ⟨rfl,R1,o1⟩
  have F1:=h.read R1 o1
  have ho1:=ho.kept o1 (by have:=h.l1;simp;omega)
  clear ht R1 o1 h ho
  go_wp2_with fail
  go_loopw [11] (fun t wr=>∃ (first:Bool) (acc:List Str) (an:Option Addr) (n cn i kf:Nat) (fp fy:Int),t = .bool first ∧ Fl R wb wr nb br bn { g with n:=.slice an n cn } i dp fp fy ∧ OwnS wr wb.heap.size (.slice an n cn) acc ∧ Hid (acc.length = n) ∧ n ≤ i ∧ R.n - i < kf ∧ Hid (RES = lsF R.q [41] (nmI R.q) fewN kf first acc (R.T.drop i))) (fun _ wr=>R.n + 1 - posOf R wr)
  case atStart=>exact ⟨true,acc,an,n,cn,i + 1,R.n - i + 1,fp,fy,rfl,F1,ho1,HL,by omega,by omega,HR1⟩
  case round=>
   clear HR1 F1 ho1 HL hni hi
   clear acc an n cn i fp fy
   obtain ⟨first,acc,an,n,cn,i,kf0,fp,fy,rfl,F,ho,HL,hni,hkf,HR⟩:=hrel
   obtain ⟨kf,rfl⟩:∃ kf,kf0 = kf + 1:=⟨kf0 - 1,by omega⟩
   have hib:=F.rd.ib
   have hnb:=F.rd.nb
   have ha:=zao R F.rd
   have hg:=fun W=>zbb (hd R.q (R.T.drop i)) [41] W
   cases hc:sg (hd R.q (R.T.drop i)) [41] with
   | true=>
    have HX:Hid (RES = if fewN acc = true then .inr (acc,R.T.drop (i + 1)) else .inl (bad R.q (R.T.drop i) 32)):=by
     show _ = _
     rw [HR.out,lsF,if_pos hc,List.tail_drop]
    rw [hc] at hg
    have hi:=zgp F.rd hc
    have hts:=fun W (hW:Rd R W i dp fp fy)=>zaz R [41] hW hc
    have hrf:=fun W (hW:Rd R W i dp fp fy)=>zba R 32 hW
    clear HR hc
    cases hf:fewN acc with
    | true=>
     rw [hf,if_pos rfl] at HX
     generalize hd R.q (R.T.drop i) = x at *
     go_wp2_with fail
     refine ha.mono ?_
     rintro e w1 ⟨rfl,b1⟩
     have F1:=F.later b1
     have ho1:=ho.later b1
     go_wp2_with fail
     refine (hg _).mono ?_
     rintro e w2 ⟨rfl,b2⟩
     have F2:=F1.later b2
     have ho2:=ho1.later b2
     have hfw:=few_s R acc rfl HL (by omega) F2 ho2
     rw [hf] at hfw
     clear ha hg F1 ho1 b1 b2
     go_wp2_with fail
     refine hfw.mono ?_
     rintro e w3 ⟨rfl,rfl⟩
     go_wp2_with fail
     refine (hts _ F2.rd).mono ?_
     rintro e w3 ⟨rfl,R3,o3⟩
     have F3:=F2.read R3 o3
     have ho3:=ho2.kept o3 (by have:=F2.l1;simp;omega)
     go_wp2_with fail
     go_ret
     rw [HX.out]
     exact ⟨an,n,cn,i + 1,fp,fy,rfl,rfl,F3,ho3⟩
    | false=>
     rw [hf,if_neg (by simp),bad] at HX
     generalize hd R.q (R.T.drop i) = x at *
     go_wp2_with fail
     refine ha.mono ?_
     rintro e w1 ⟨rfl,b1⟩
     have F1:=F.later b1
     have ho1:=ho.later b1
     go_wp2_with fail
     refine (hg _).mono ?_
     rintro e w2 ⟨rfl,b2⟩
     have F2:=F1.later b2
     have ho2:=ho1.later b2
     have hfw:=few_s R acc rfl HL (by omega) F2 ho2
     rw [hf] at hfw
     clear ha hg F1 ho1 b1 b2
     go_wp2_with fail
     refine hfw.mono ?_
     rintro e w3 ⟨rfl,rfl⟩
     go_wp2_with fail
     refine (hrf _ F2.rd).mono ?_
     rintro e w3 ⟨rfl,R3,o3⟩
     have F3:=F2.read R3 o3
     go_wp2_with fail
     go_ret
     rw [HX.out]
     exact ⟨an,n,cn,i,rfl,F3⟩
   | false=>
    rw [hc] at hg
    cases first with
    | true=>
     have HS2:Hid (RES = bnd (nmI R.q (R.T.drop i)) fun x=>lsF R.q [41] (nmI R.q) fewN kf false (acc ++ [x.1]) x.2):=by
      show _ = _
      rw [HR.out,lsF,if_neg (by simp [hc]),if_neg (by simp),if_pos rfl]
     clear hc
     generalize hd R.q (R.T.drop i) = x at *
     go_wp2_with fail
     refine ha.mono ?_
     rintro e w1 ⟨rfl,b1⟩
     have F1:=F.later b1
     have ho1:=ho.later b1
     go_wp2_with fail
     refine (hg _).mono ?_
     rintro e w2 ⟨rfl,b2⟩
     have F2:=F1.later b2
     have ho2:=ho1.later b2
     clear ha hg F1 ho1 b1 b2
     have hit:=itN_any R acc rfl HL (by omega) F2 ho2
     cases hr:nmI R.q (R.T.drop i) with
     | inr x=>
      rw [hr] at hit HS2
      have HN:Hid (RES = lsF R.q [41] (nmI R.q) fewN kf false (acc ++ [x.1]) x.2):=HS2
      clear HS2 hr HR
      go_wp2_with fail
      refine hit.mono ?_
      rintro e w5 ⟨ao,cap,j,fp5,fy5,rfl,hxl,hij,F5,own5⟩
      rw [hxl] at HN
      have hj5:=F5.rd.ib
      go_wp2_with fail
      go_roundw
      case rel=>exact ⟨false,acc ++ [x.1],ao,n + 1,cap,j,kf,fp5,fy5,rfl,F5,own5,by show _ = _;rw [List.length_append,HL.out];rfl,by omega,by omega,HN⟩
      case measure=>rw [F5.rd.pos,F.rd.pos];omega
     | inl er=>
      rw [hr] at hit HS2
      have HN:Hid (RES = .inl er):=HS2
      clear HS2 hr HR
      go_wp2_with fail
      refine hit.mono ?_
      rintro e w5 ⟨ao,cap,j,rfl,F5⟩
      go_wp2_with fail
      go_ret
      rw [HN.out]
      exact ⟨ao,n + 1,cap,j,rfl,F5⟩
    | false=>
     cases hm:sg (hd R.q (R.T.drop i)) [44] with
     | false=>
      have HX:Hid (RES = .inl ((hd R.q (R.T.drop i)).p,71)):=by
       show _ = _
       rw [HR.out,lsF,if_neg (by simp [hc]),if_pos ⟨rfl,hm⟩]
       rfl
      have hts:=fun W (hW:Rd R W i dp fp fy)=>zbp R [44] hW hm
      clear HR hc hm
      generalize hd R.q (R.T.drop i) = x at *
      go_wp2_with fail
      refine ha.mono ?_
      rintro e w1 ⟨rfl,b1⟩
      have F1:=F.later b1
      go_wp2_with fail
      refine (hg _).mono ?_
      rintro e w2 ⟨rfl,b2⟩
      have F2:=F1.later b2
      clear ha hg F1 b1 b2
      go_wp2_with fail
      refine (hts _ F2.rd).mono ?_
      rintro e w3 ⟨rfl,R3,o3⟩
      have F3:=F2.read R3 o3
      go_wp2_with fail
      go_ret
      rw [HX.out]
      exact ⟨an,n,cn,i,rfl,F3⟩
     | true=>
      have HS2:Hid (RES = bnd (nmI R.q (R.T.drop (i + 1))) fun x=>lsF R.q [41] (nmI R.q) fewN kf false (acc ++ [x.1]) x.2):=by
       show _ = _
       rw [HR.out,lsF,if_neg (by simp [hc]),if_neg (by simp [hm]),if_neg (by simp),List.tail_drop]
      have hts:=fun W (hW:Rd R W i dp fp fy)=>zaz R [44] hW hm
      have hi:=zgp F.rd hm
      clear hc hm
      generalize hd R.q (R.T.drop i) = x at *
      go_wp2_with fail
      refine ha.mono ?_
      rintro e w1 ⟨rfl,b1⟩
      have F1:=F.later b1
      have ho1:=ho.later b1
      go_wp2_with fail
      refine (hg _).mono ?_
      rintro e w2 ⟨rfl,b2⟩
      have F1b:=F1.later b2
      have ho1b:=ho1.later b2
      clear ha hg F1 ho1 b1 b2
      go_wp2_with fail
      refine (hts _ F1b.rd).mono ?_
      rintro e w3 ⟨rfl,R3,o3⟩
      have F2:=F1b.read R3 o3
      have ho2:=ho1b.kept o3 (by have:=F1b.l1;simp;omega)
      clear hts R3 o3 F1b ho1b
      have hit:=itN_any R acc rfl HL (by omega) F2 ho2
      cases hr:nmI R.q (R.T.drop (i + 1)) with
      | inr x=>
       rw [hr] at hit HS2
       have HN:Hid (RES = lsF R.q [41] (nmI R.q) fewN kf false (acc ++ [x.1]) x.2):=HS2
       clear HS2 hr HR
       go_wp2_with fail
       refine hit.mono ?_
       rintro e w5 ⟨ao,cap,j,fp5,fy5,rfl,hxl,hij,F5,own5⟩
       rw [hxl] at HN
       have hj5:=F5.rd.ib
       go_wp2_with fail
       go_roundw
       case rel=>exact ⟨false,acc ++ [x.1],ao,n + 1,cap,j,kf,fp5,fy5,rfl,F5,own5,by show _ = _;rw [List.length_append,HL.out];rfl,by omega,by omega,HN⟩
       case measure=>rw [F5.rd.pos,F.rd.pos];omega
      | inl er=>
       rw [hr] at hit HS2
       have HN:Hid (RES = .inl er):=HS2
       clear HS2 hr HR
       go_wp2_with fail
       refine hit.mono ?_
       rintro e w5 ⟨ao,cap,j,rfl,F5⟩
       go_wp2_with fail
       go_ret
       rw [HN.out]
       exact ⟨ao,n + 1,cap,j,rfl,F5⟩
def itMOut (R:Rc) (wb:World) (nb br bn:Nat) (f:Nf) (dp:Int) (i n:Nat) (acc:List Mt) (res:Rs Mt) (e:Ending) (w':World):Prop:=
 match res with
 | .inr x=>∃ ao cap j fp fy,e = .returned (.bool true) ∧ x.2 = R.T.drop j ∧ i < j ∧ Fl R wb w' nb br bn { f with m:=.slice ao (n + 1) cap } j dp fp fy ∧ OwnM w' wb.heap.size (.slice ao (n + 1) cap) (acc ++ [x.1])
 | .inl er=>∃ ao cap j,e = .returned (.bool false) ∧ Fl R wb w' nb br bn { f with m:=.slice ao (n + 1) cap } j dp er.1 er.2
theorem itM_any (R:Rc) {wb w:World} {nb br bn:Nat} {f:Nf} {i:Nat} {dp fp fy:Int} {an:Option Addr} {n cn:Nat} (acc:List Mt) (hfn:f.m = .slice an n cn) (HL:Hid (acc.length = n)) (hn:n ≤ 1000000) (h:Fl R wb w nb br bn f i dp fp fy) (ho:OwnM w wb.heap.size (.slice an n cn) acc):Calls Tryz.prog 426 #[.pointer (some ⟨br,0,none⟩),.pointer (some ⟨bn,0,none⟩)] w (itMOut R wb nb br bn f dp i n acc (mtI R.q (R.T.drop i))):=by
 have hm:=zlf R h.rd
 cases hr:mtI R.q (R.T.drop i) with
 | inr x=>
  rw [hr] at hm
  refine (br1_any R acc hfn HL hn h ho (fun y ok j _ _=>y = x.1 ∧ ok = true ∧ j = i + 3 ∧ x.2 = R.T.drop (i + 3)) (hm.mono fun e w' hq=>⟨_,_,_,_,_,⟨rfl,rfl,rfl,hq.2.1⟩,hq.1,hq.2.2⟩)).mono ?_
  rintro e w1 ⟨y,ok,j,fp',fy',ao,cap,⟨rfl,rfl,rfl,hx⟩,rfl,F,own⟩
  exact ⟨ao,cap,i + 3,_,_,rfl,hx,by omega,F,own⟩
 | inl er=>
  rw [hr] at hm
  refine (br1_any R acc hfn HL hn h ho (fun _ ok _ fp' fy'=>ok = false ∧ fp' = er.1 ∧ fy' = er.2) (hm.mono fun e w' hq=>by obtain ⟨y,j,hq⟩:=hq;exact ⟨y,false,j,er.1,er.2,⟨rfl,rfl,rfl⟩,hq⟩)).mono ?_
  rintro e w1 ⟨y,ok,j,fp',fy',ao,cap,⟨rfl,rfl,rfl⟩,rfl,F,own⟩
  exact ⟨ao,cap,_,rfl,F⟩
theorem few_m (R:Rc) {wb w:World} {nb br bn:Nat} {f:Nf} {i:Nat} {dp fp fy:Int} {an:Option Addr} {n cn:Nat} (acc:List Mt) (hfn:f.m = .slice an n cn) (HL:Hid (acc.length = n)) (h:Fl R wb w nb br bn f i dp fp fy) :
  Calls Tryz.prog 428 #[.pointer (some ⟨bn,0,none⟩)] w fun e w'=>e = .returned (.bool (fewM acc)) ∧ w = w':=by
 have c0:=(zaa h.xn 0).trans rfl
 have c1:w.cell? ⟨nb,6,none⟩ = some (.slice an n cn):=(zaa h.nd 6).trans (by rw [← hfn];rfl)
 have HV:Hid (fewM acc = decide (n ≤ 8)):=by show _ = _;unfold fewM;rw [HL.out]
 clear h hfn
 by_cases h8:n ≤ 8
 ·
  have h8':(n:Int) ≤ 8:=by omega
  rw [decide_eq_true h8] at HV
  clear h8
  go_enter Tryz.func428,Tryz.ntmps428
  go_wp2_with fail
  go_ret
  exact ⟨by rw [HV.out];rfl,rfl⟩
 have h8':¬ (n:Int) ≤ 8:=by omega
 rw [decide_eq_false h8] at HV
 clear h8
 go_enter Tryz.func428,Tryz.ntmps428
 go_wp2_with fail
 go_ret
 exact ⟨by rw [HV.out];rfl,rfl⟩
def listMOut (R:Rc) (wb:World) (nb br bn:Nat) (f:Nf) (dp:Int) (res:Rs (List Mt)) (e:Ending) (w':World):Prop:=
 match res with
 | .inr x=>∃ an n cn j fp fy,e = .returned (.bool true) ∧ x.2 = R.T.drop j ∧ Fl R wb w' nb br bn { f with m:=.slice an n cn } j dp fp fy ∧ OwnM w' wb.heap.size (.slice an n cn) x.1
 | .inl er=>∃ an n cn j,e = .returned (.bool false) ∧ Fl R wb w' nb br bn { f with m:=.slice an n cn } j dp er.1 er.2
set_option maxRecDepth 20000 in
theorem listM_any (R:Rc) {wb w:World} {nb br bn:Nat} {f:Nf} {i:Nat} {dp fp fy:Int} {an:Option Addr} {n cn:Nat} (acc:List Mt) (hfn:f.m = .slice an n cn) (HL:Hid (acc.length = n)) (h:Fl R wb w nb br bn f i dp fp fy) (ho:OwnM w wb.heap.size (.slice an n cn) acc) (hni:n ≤ i) :
  Calls Tryz.prog 415 #[R.ptr,tx [123],tx [125],.func (.func 426) #[] #[.pointer (some ⟨br,0,none⟩),.pointer (some ⟨bn,0,none⟩)],.func (.func 428) #[] #[.pointer (some ⟨bn,0,none⟩)]] w (listMOut R wb nb br bn f dp (if sg (hd R.q (R.T.drop i)) [123] = true then lsF R.q [125] (mtI R.q) fewM ((R.T.drop i).length + 1) true acc (R.T.drop (i + 1)) else .inl (bad R.q (R.T.drop i) 71))):=by
 obtain ⟨g,hg⟩:∃ g,g = { f with m:=nl }:=⟨_,rfl⟩
 have hfg:f = { g with m:=.slice an n cn }:=by rw [hg,← hfn]
 have hgo:∀ v,{ f with m:=v } = ({ g with m:=v }:Nf):=fun v=>by rw [hg]
 have hpost:∀ res e w',listMOut R wb nb br bn g dp res e w' → listMOut R wb nb br bn f dp res e w':=fun res e w' hq=>by
  unfold listMOut at hq ⊢
  simp only [hgo]
  exact hq
 rw [hfg] at h
 clear hg hgo hfn
 refine Calls.mono (R:=listMOut R wb nb br bn g dp _) ?_ (hpost _)
 clear hpost hfg
 cases hs:sg (hd R.q (R.T.drop i)) [123] with
 | false=>
  rw [if_neg (by simp)]
  have ht:=zbp R [123] h.rd hs
  clear hs
  go_enter Tryz.func415,Tryz.ntmps415
  go_wp2_with fail
  refine ht.mono ?_
  rintro e w1 ⟨rfl,R1,o1⟩
  have F1:=h.read R1 o1
  clear ht
  go_wp2_with fail
  go_ret
  exact ⟨an,n,cn,i,rfl,F1⟩
 | true=>
  rw [if_pos rfl]
  have hi:=zgp h.rd hs
  have ht:=zaz R [123] h.rd hs
  have HLT:Hid (R.T.length = R.n):=h.rd.ts.1
  rw [List.length_drop,HLT.out]
  generalize hres:lsF R.q [125] (mtI R.q) fewM (R.n - i + 1) true acc (R.T.drop (i + 1)) = RES at *
  have HR1:Hid (RES = lsF R.q [125] (mtI R.q) fewM (R.n - i + 1) true acc (R.T.drop (i + 1))):=hres.symm
  clear hs hres HLT
  go_enter Tryz.func415,Tryz.ntmps415
  go_wp2_with fail
  refine ht.mono ?_
  rintro e w1 ⟨rfl,R1,o1⟩
  have F1:=h.read R1 o1
  have ho1:=ho.kept o1 (by have:=h.l1;simp;omega)
  clear ht R1 o1 h ho
  go_wp2_with fail
  go_loopw [11] (fun t wr=>∃ (first:Bool) (acc:List Mt) (an:Option Addr) (n cn i kf:Nat) (fp fy:Int),t = .bool first ∧ Fl R wb wr nb br bn { g with m:=.slice an n cn } i dp fp fy ∧ OwnM wr wb.heap.size (.slice an n cn) acc ∧ Hid (acc.length = n) ∧ n ≤ i ∧ R.n - i < kf ∧ Hid (RES = lsF R.q [125] (mtI R.q) fewM kf first acc (R.T.drop i))) (fun _ wr=>R.n + 1 - posOf R wr)
  case atStart=>exact ⟨true,acc,an,n,cn,i + 1,R.n - i + 1,fp,fy,rfl,F1,ho1,HL,by omega,by omega,HR1⟩
  case round=>
   clear HR1 F1 ho1 HL hni hi
   clear acc an n cn i fp fy
   obtain ⟨first,acc,an,n,cn,i,kf0,fp,fy,rfl,F,ho,HL,hni,hkf,HR⟩:=hrel
   obtain ⟨kf,rfl⟩:∃ kf,kf0 = kf + 1:=⟨kf0 - 1,by omega⟩
   have hib:=F.rd.ib
   have hnb:=F.rd.nb
   have ha:=zao R F.rd
   have hg:=fun W=>zbb (hd R.q (R.T.drop i)) [125] W
   cases hc:sg (hd R.q (R.T.drop i)) [125] with
   | true=>
    have HX:Hid (RES = if fewM acc = true then .inr (acc,R.T.drop (i + 1)) else .inl (bad R.q (R.T.drop i) 32)):=by
     show _ = _
     rw [HR.out,lsF,if_pos hc,List.tail_drop]
    rw [hc] at hg
    have hi:=zgp F.rd hc
    have hts:=fun W (hW:Rd R W i dp fp fy)=>zaz R [125] hW hc
    have hrf:=fun W (hW:Rd R W i dp fp fy)=>zba R 32 hW
    clear HR hc
    cases hf:fewM acc with
    | true=>
     rw [hf,if_pos rfl] at HX
     generalize hd R.q (R.T.drop i) = x at *
     go_wp2_with fail
     refine ha.mono ?_
     rintro e w1 ⟨rfl,b1⟩
     have F1:=F.later b1
     have ho1:=ho.later b1
     go_wp2_with fail
     refine (hg _).mono ?_
     rintro e w2 ⟨rfl,b2⟩
     have F2:=F1.later b2
     have ho2:=ho1.later b2
     have hfw:=few_m R acc rfl HL F2
     rw [hf] at hfw
     clear ha hg F1 ho1 b1 b2
     go_wp2_with fail
     refine hfw.mono ?_
     rintro e w3 ⟨rfl,rfl⟩
     go_wp2_with fail
     refine (hts _ F2.rd).mono ?_
     rintro e w3 ⟨rfl,R3,o3⟩
     have F3:=F2.read R3 o3
     have ho3:=ho2.kept o3 (by have:=F2.l1;simp;omega)
     go_wp2_with fail
     go_ret
     rw [HX.out]
     exact ⟨an,n,cn,i + 1,fp,fy,rfl,rfl,F3,ho3⟩
    | false=>
     rw [hf,if_neg (by simp),bad] at HX
     generalize hd R.q (R.T.drop i) = x at *
     go_wp2_with fail
     refine ha.mono ?_
     rintro e w1 ⟨rfl,b1⟩
     have F1:=F.later b1
     have ho1:=ho.later b1
     go_wp2_with fail
     refine (hg _).mono ?_
     rintro e w2 ⟨rfl,b2⟩
     have F2:=F1.later b2
     have ho2:=ho1.later b2
     have hfw:=few_m R acc rfl HL F2
     rw [hf] at hfw
     clear ha hg F1 ho1 b1 b2
     go_wp2_with fail
     refine hfw.mono ?_
     rintro e w3 ⟨rfl,rfl⟩
     go_wp2_with fail
     refine (hrf _ F2.rd).mono ?_
     rintro e w3 ⟨rfl,R3,o3⟩
     have F3:=F2.read R3 o3
     go_wp2_with fail
     go_ret
     rw [HX.out]
     exact ⟨an,n,cn,i,rfl,F3⟩
   | false=>
    rw [hc] at hg
    cases first with
    | true=>
     have HS2:Hid (RES = bnd (mtI R.q (R.T.drop i)) fun x=>lsF R.q [125] (mtI R.q) fewM kf false (acc ++ [x.1]) x.2):=by
      show _ = _
      rw [HR.out,lsF,if_neg (by simp [hc]),if_neg (by simp),if_pos rfl]
     clear hc
     generalize hd R.q (R.T.drop i) = x at *
     go_wp2_with fail
     refine ha.mono ?_
     rintro e w1 ⟨rfl,b1⟩
     have F1:=F.later b1
     have ho1:=ho.later b1
     go_wp2_with fail
     refine (hg _).mono ?_
     rintro e w2 ⟨rfl,b2⟩
     have F2:=F1.later b2
     have ho2:=ho1.later b2
     clear ha hg F1 ho1 b1 b2
     have hit:=itM_any R acc rfl HL (by omega) F2 ho2
     cases hr:mtI R.q (R.T.drop i) with
     | inr x=>
      rw [hr] at hit HS2
      have HN:Hid (RES = lsF R.q [125] (mtI R.q) fewM kf false (acc ++ [x.1]) x.2):=HS2
      clear HS2 hr HR
      go_wp2_with fail
      refine hit.mono ?_
      rintro e w5 ⟨ao,cap,j,fp5,fy5,rfl,hxl,hij,F5,own5⟩
      rw [hxl] at HN
      have hj5:=F5.rd.ib
      go_wp2_with fail
      go_roundw
      case rel=>exact ⟨false,acc ++ [x.1],ao,n + 1,cap,j,kf,fp5,fy5,rfl,F5,own5,by show _ = _;rw [List.length_append,HL.out];rfl,by omega,by omega,HN⟩
      case measure=>rw [F5.rd.pos,F.rd.pos];omega
     | inl er=>
      rw [hr] at hit HS2
      have HN:Hid (RES = .inl er):=HS2
      clear HS2 hr HR
      go_wp2_with fail
      refine hit.mono ?_
      rintro e w5 ⟨ao,cap,j,rfl,F5⟩
      go_wp2_with fail
      go_ret
      rw [HN.out]
      exact ⟨ao,n + 1,cap,j,rfl,F5⟩
    | false=>
     cases hm:sg (hd R.q (R.T.drop i)) [44] with
     | false=>
      have HX:Hid (RES = .inl ((hd R.q (R.T.drop i)).p,71)):=by
       show _ = _
       rw [HR.out,lsF,if_neg (by simp [hc]),if_pos ⟨rfl,hm⟩]
       rfl
      have hts:=fun W (hW:Rd R W i dp fp fy)=>zbp R [44] hW hm
      clear HR hc hm
      generalize hd R.q (R.T.drop i) = x at *
      go_wp2_with fail
      refine ha.mono ?_
      rintro e w1 ⟨rfl,b1⟩
      have F1:=F.later b1
      go_wp2_with fail
      refine (hg _).mono ?_
      rintro e w2 ⟨rfl,b2⟩
      have F2:=F1.later b2
      clear ha hg F1 b1 b2
      go_wp2_with fail
      refine (hts _ F2.rd).mono ?_
      rintro e w3 ⟨rfl,R3,o3⟩
      have F3:=F2.read R3 o3
      go_wp2_with fail
      go_ret
      rw [HX.out]
      exact ⟨an,n,cn,i,rfl,F3⟩
     | true=>
      have HS2:Hid (RES = bnd (mtI R.q (R.T.drop (i + 1))) fun x=>lsF R.q [125] (mtI R.q) fewM kf false (acc ++ [x.1]) x.2):=by
       show _ = _
       rw [HR.out,lsF,if_neg (by simp [hc]),if_neg (by simp [hm]),if_neg (by simp),List.tail_drop]
      have hts:=fun W (hW:Rd R W i dp fp fy)=>zaz R [44] hW hm
      have hi:=zgp F.rd hm
      clear hc hm
      generalize hd R.q (R.T.drop i) = x at *
      go_wp2_with fail
      refine ha.mono ?_
      rintro e w1 ⟨rfl,b1⟩
      have F1:=F.later b1
      have ho1:=ho.later b1
      go_wp2_with fail
      refine (hg _).mono ?_
      rintro e w2 ⟨rfl,b2⟩
      have F1b:=F1.later b2
      have ho1b:=ho1.later b2
      clear ha hg F1 ho1 b1 b2
      go_wp2_with fail
      refine (hts _ F1b.rd).mono ?_
      rintro e w3 ⟨rfl,R3,o3⟩
      have F2:=F1b.read R3 o3
      have ho2:=ho1b.kept o3 (by have:=F1b.l1;simp;omega)
      clear hts R3 o3 F1b ho1b
      have hit:=itM_any R acc rfl HL (by omega) F2 ho2
      cases hr:mtI R.q (R.T.drop (i + 1)) with
      | inr x=>
       rw [hr] at hit HS2
       have HN:Hid (RES = lsF R.q [125] (mtI R.q) fewM kf false (acc ++ [x.1]) x.2):=HS2
       clear HS2 hr HR
       go_wp2_with fail
       refine hit.mono ?_
       rintro e w5 ⟨ao,cap,j,fp5,fy5,rfl,hxl,hij,F5,own5⟩
       rw [hxl] at HN
       have hj5:=F5.rd.ib
       go_wp2_with fail
       go_roundw
       case rel=>exact ⟨false,acc ++ [x.1],ao,n + 1,cap,j,kf,fp5,fy5,rfl,F5,own5,by show _ = _;rw [List.length_append,HL.out];rfl,by omega,by omega,HN⟩
       case measure=>rw [F5.rd.pos,F.rd.pos];omega
      | inl er=>
       rw [hr] at hit HS2
       have HN:Hid (RES = .inl er):=HS2
       clear HS2 hr HR
       go_wp2_with fail
       refine hit.mono ?_
       rintro e w5 ⟨ao,cap,j,rfl,F5⟩
       go_wp2_with fail
       go_ret
       rw [HN.out]
       exact ⟨ao,n + 1,cap,j,rfl,F5⟩
def nmOut (R:Rc) (w:World) (nb:Nat) (f:Nf) (dp:Int) (res:Rs (List Str)) (e:Ending) (w':World):Prop:=
 match res with
 | .inr x=>∃ an n cn j fp fy,e = .returned (.bool true) ∧ x.2 = R.T.drop j ∧ Rd R w' j dp fp fy ∧ w'.heap[nb]? = some (.cells ({ f with n:=.slice an n cn }:Nf).arr 356) ∧ Sl w' w.heap.size (.slice an n cn) x.1.length (x.1.map tx) ∧ Off [R.b,nb] w w'
 | .inl er=>∃ an n cn j,e = .returned (.bool false) ∧ Rd R w' j dp er.1 er.2 ∧ w'.heap[nb]? = some (.cells ({ f with n:=.slice an n cn }:Nf).arr 356) ∧ Off [R.b,nb] w w'
theorem Fl.start {R:Rc} {w:World} {nb:Nat} {f:Nf} {i:Nat} {dp fp fy:Int} (h:Rd R w i dp fp fy) (hn:w.heap[nb]? = some (.cells f.arr 356)) (hb:R.b < nb) :
  Fl R w ((w.alloc (.cells #[R.ptr] 227)).alloc (.cells #[.pointer (some ⟨nb,0,none⟩)] 361)) nb w.heap.size (w.heap.size + 1) f i dp fp fy:=by
 have b1:=bal (Below.refl w.heap.size w) (.cells #[R.ptr] 227)
 have b2:=bal (Below.refl _ (w.alloc (.cells #[R.ptr] 227))) (.cells #[.pointer (some ⟨nb,0,none⟩)] 361)
 have n2:=zac (w.alloc (.cells #[R.ptr] 227)) (.cells #[.pointer (some ⟨nb,0,none⟩)] 361)
 rw [zbd] at n2
 exact ⟨(h.later b1).later b2,zab b2 (zab b1 hn),zab b2 (zac w _),n2,((Off.refl _ w).on b1).on b2,h.bl,zah hn,hb⟩
theorem zjl (R:Rc) {w:World} {nb:Nat} {f:Nf} {i:Nat} {dp fp fy:Int} (h:Rd R w i dp fp fy) (hn:w.heap[nb]? = some (.cells f.arr 356)) (hb:R.b < nb) (hf:f.n = nl) :
  Calls Tryz.prog 391 #[R.ptr,.pointer (some ⟨nb,0,none⟩)] w (nmOut R w nb f dp (nmP R.q (R.T.drop i))):=by
 have F:=Fl.start h hn hb
 have hl:=listN_any R [] hf (show Hid (([]:List Str).length = 0) from rfl) F (OwnS.nil _ _) (by omega)
 have c0:=(zaa F.xr 0).trans rfl
 have e:nmP R.q (R.T.drop i) = if sg (hd R.q (R.T.drop i)) [40] = true then lsF R.q [41] (nmI R.q) fewN ((R.T.drop i).length + 1) true [] (R.T.drop (i + 1)) else .inl (bad R.q (R.T.drop i) 71):=by
  unfold nmP
  rw [List.tail_drop]
 rw [← e] at hl
 clear e h hn
 have HN:Hid (R.b < nb):=hb
 clear hb F
 cases hr:nmP R.q (R.T.drop i) with
 | inr x=>
  rw [hr] at hl
  clear hr
  go_enter Tryz.func391,Tryz.ntmps391
  go_wp2_with fail
  refine hl.mono ?_
  rintro e w1 ⟨an,n,cn,j,fp1,fy1,rfl,hx,F1,o1⟩
  clear hl
  go_wp2_with fail
  go_ret
  have hcl:x.1.length = n:=by
   have:=o1.1
   obtain ⟨ao,cap,e,_⟩:=o1.slice
   injection e with _ e _
   exact e.symm
  refine ⟨an,n,cn,j,fp1,fy1,rfl,hx,F1.rd,F1.nd,?_,F1.off⟩
  have:=Sl.owns (cs:=x.1.map tx) o1 (by simp)
  exact this
 | inl er=>
  rw [hr] at hl
  clear hr
  go_enter Tryz.func391,Tryz.ntmps391
  go_wp2_with fail
  refine hl.mono ?_
  rintro e w1 ⟨an,n,cn,j,rfl,F1⟩
  clear hl
  go_wp2_with fail
  go_ret
  exact ⟨an,n,cn,j,rfl,F1.rd,F1.nd,F1.off⟩
def brOut (R:Rc) (wb:World) (nb:Nat) (f:Nf) (dp:Int) (res:Rs (List Mt)) (e:Ending) (w':World):Prop:=
 match res with
 | .inr x=>∃ an n cn j fp fy,e = .returned (.bool true) ∧ x.2 = R.T.drop j ∧ Rd R w' j dp fp fy ∧ w'.heap[nb]? = some (.cells ({ f with m:=.slice an n cn }:Nf).arr 356) ∧ OwnM w' wb.heap.size (.slice an n cn) x.1 ∧ Off [R.b,nb] wb w'
 | .inl er=>∃ an n cn j,e = .returned (.bool false) ∧ Rd R w' j dp er.1 er.2 ∧ w'.heap[nb]? = some (.cells ({ f with m:=.slice an n cn }:Nf).arr 356) ∧ Off [R.b,nb] wb w'
theorem zhm (R:Rc) {wb w:World} {nb:Nat} {f:Nf} {i:Nat} {dp fp fy:Int} {an:Option Addr} {n cn:Nat} (acc:List Mt) (hfm:f.m = .slice an n cn) (HL:Hid (acc.length = n)) (h:Rd R w i dp fp fy) (hn:w.heap[nb]? = some (.cells f.arr 356)) (ho:OwnM w wb.heap.size (.slice an n cn) acc) (hO:Off [R.b,nb] wb w) (hb:R.b < nb) (l2:nb < wb.heap.size) (hni:n ≤ i) :
  Calls Tryz.prog 413 #[R.ptr,.pointer (some ⟨nb,0,none⟩)] w (brOut R wb nb f dp (brP R.q acc (R.T.drop i))):=by
 have F0:=Fl.start h hn hb
 have F:Fl R wb _ nb w.heap.size (w.heap.size + 1) f i dp fp fy:=⟨F0.rd,F0.nd,F0.xr,F0.xn,hO.trans F0.off (by simp),by omega,l2,hb⟩
 have B1:=bal (bal (Below.refl w.heap.size w) (.cells #[R.ptr] 227)) (.cells #[.pointer (some ⟨nb,0,none⟩)] 361)
 have o1:=ho.later B1
 have ha:=zao R F.rd
 have hg:=fun W=>zbb (hd R.q (R.T.drop i)) [123] W
 have c0:=(zaa F.xr 0).trans rfl
 clear F0 B1 h hn ho hO
 cases hs:sg (hd R.q (R.T.drop i)) [123] with
 | false=>
  have e:brP R.q acc (R.T.drop i) = .inr (acc,R.T.drop i):=by unfold brP;rw [if_neg (by simp [hs])]
  rw [e]
  rw [hs] at hg
  clear e hs
  generalize hd R.q (R.T.drop i) = x at *
  go_enter Tryz.func413,Tryz.ntmps413
  go_wp2_with fail
  refine ha.mono ?_
  rintro e w1 ⟨rfl,b1⟩
  have F1:=F.later b1
  have o2:=o1.later b1
  clear ha b1 F o1
  go_wp2_with fail
  refine (hg _).mono ?_
  rintro e w2 ⟨rfl,b2⟩
  have F2:=F1.later b2
  have o3:=o2.later b2
  clear hg b2 F1 o2
  go_wp2_with fail
  go_ret
  exact ⟨an,n,cn,i,fp,fy,rfl,rfl,F2.rd,by rw [F2.nd,← hfm],o3,F2.off⟩
 | true=>
  have hl:=fun W (hF:Fl R wb W nb w.heap.size (w.heap.size + 1) f i dp fp fy) (hW:OwnM W wb.heap.size (.slice an n cn) acc)=>listM_any R acc hfm HL hF hW hni
  have e:brP R.q acc (R.T.drop i) = if sg (hd R.q (R.T.drop i)) [123] = true then lsF R.q [125] (mtI R.q) fewM ((R.T.drop i).length + 1) true acc (R.T.drop (i + 1)) else .inl (bad R.q (R.T.drop i) 71):=by
   unfold brP
   rw [if_pos hs,if_pos hs,List.tail_drop]
  rw [← e] at hl
  rw [hs] at hg
  clear e hs
  generalize hd R.q (R.T.drop i) = x at *
  cases hr:brP R.q acc (R.T.drop i) with
  | inr y=>
   rw [hr] at hl
   clear hr
   go_enter Tryz.func413,Tryz.ntmps413
   go_wp2_with fail
   refine ha.mono ?_
   rintro e w1 ⟨rfl,b1⟩
   have F1:=F.later b1
   have o2:=o1.later b1
   clear ha b1 F o1
   go_wp2_with fail
   refine (hg _).mono ?_
   rintro e w2 ⟨rfl,b2⟩
   have F2:=F1.later b2
   have o3:=o2.later b2
   have c2:=(zaa F2.xr 0).trans rfl
   have hl2:=hl _ F2 o3
   clear hg b2 F1 o2 c0 hl
   go_wp2_with fail
   refine hl2.mono ?_
   rintro e w3 ⟨am,m,cm,j,fp1,fy1,rfl,hx,F3,o4⟩
   clear hl2
   go_wp2_with fail
   go_ret
   exact ⟨am,m,cm,j,fp1,fy1,rfl,hx,F3.rd,F3.nd,o4,F3.off⟩
  | inl er=>
   rw [hr] at hl
   clear hr
   go_enter Tryz.func413,Tryz.ntmps413
   go_wp2_with fail
   refine ha.mono ?_
   rintro e w1 ⟨rfl,b1⟩
   have F1:=F.later b1
   have o2:=o1.later b1
   clear ha b1 F o1
   go_wp2_with fail
   refine (hg _).mono ?_
   rintro e w2 ⟨rfl,b2⟩
   have F2:=F1.later b2
   have o3:=o2.later b2
   have c2:=(zaa F2.xr 0).trans rfl
   have hl2:=hl _ F2 o3
   clear hg b2 F1 o2 c0 hl
   go_wp2_with fail
   refine hl2.mono ?_
   rintro e w3 ⟨am,m,cm,j,rfl,F3⟩
   clear hl2
   go_wp2_with fail
   go_ret
   exact ⟨am,m,cm,j,rfl,F3.rd,F3.nd,F3.off⟩
def wnOut (R:Rc) (w:World) (nb:Nat) (f:Nf) (dp:Int) (res:Rs Int) (e:Ending) (w':World):Prop:=
 match res with
 | .inr x=>∃ j fp fy,e = .returned (.bool true) ∧ x.2 = R.T.drop j ∧ Rd R w' j dp fp fy ∧ w'.heap[nb]? = some (.cells ({ f with r:=x.1 }:Nf).arr 356) ∧ Off [R.b,nb] w w'
 | .inl er=>∃ r j,e = .returned (.bool false) ∧ Rd R w' j dp er.1 er.2 ∧ w'.heap[nb]? = some (.cells ({ f with r:=r }:Nf).arr 356) ∧ Off [R.b,nb] w w'
set_option maxRecDepth 20000 in
theorem zgu (R:Rc) {w:World} {nb:Nat} {f:Nf} {i:Nat} {dp fp fy:Int} (h:Rd R w i dp fp fy) (hn:w.heap[nb]? = some (.cells f.arr 356)) (hb:R.b < nb) (hf:f.r = 0) :
  Calls Tryz.prog 414 #[R.ptr,.pointer (some ⟨nb,0,none⟩)] w (wnOut R w nb f dp (wnP R.q (R.T.drop i))):=by
 have hnl:=zah hn
 have ha:=zao R h
 have hg:=fun W=>zbb (hd R.q (R.T.drop i)) [91] W
 have O0:=Off.refl [R.b,nb] w
 cases hs:sg (hd R.q (R.T.drop i)) [91] with
 | false=>
  have e:wnP R.q (R.T.drop i) = .inr (0,R.T.drop i):=by unfold wnP;rw [if_pos hs]
  rw [e]
  rw [hs] at hg
  clear e hs
  generalize hd R.q (R.T.drop i) = x at *
  go_enter Tryz.func414,Tryz.ntmps414
  go_wp2_with fail
  refine ha.mono ?_
  rintro e w1 ⟨rfl,b1⟩
  have z_1:=b1.size
  have rd_2:=h.later b1
  have nd_3:=zab b1 hn
  have O_4:=O0.on b1
  clear h hn O0 ha
  go_wp2_with fail
  refine (hg _).mono ?_
  rintro e w2 ⟨rfl,b2⟩
  have z_5:=b2.size
  have rd_6:=rd_2.later b2
  have nd_7:=zab b2 nd_3
  have O_8:=O_4.on b2
  clear rd_2 nd_3 O_4
  go_wp2_with fail
  go_ret
  exact ⟨i,fp,fy,rfl,rfl,rd_6,by rw [nd_7,← hf],O_8⟩
 | true=>
  have hi:=zgp h hs
  have htk:=fun W (hW:Rd R W i dp fp fy)=>zbo R hW hi
  have e:wnP R.q (R.T.drop i) = if (hd R.q (R.T.drop (i + 1))).k ≠ 3 then .inl (bad R.q (R.T.drop (i + 1)) 71) else if sg (hd R.q (R.T.drop (i + 2))) [93] = false then .inl (bad R.q (R.T.drop (i + 2)) 71) else .inr ((hd R.q (R.T.drop (i + 1))).d,R.T.drop (i + 3)):=by
   unfold wnP
   rw [if_neg (by simp [hs]),List.tail_drop,List.tail_drop,List.tail_drop]
  rw [e]
  rw [hs] at hg
  clear e hs
  generalize hd R.q (R.T.drop i) = x at *
  by_cases hk:(hd R.q (R.T.drop (i + 1))).k = 3
  ·
   rw [if_neg (fun e=>e hk)]
   have htk3:=fun W (hW:Rd R W (i + 1) dp fp fy)=>zcq R 3 hW hk (by decide)
   clear hk
   generalize hd R.q (R.T.drop (i + 1)) = y at *
   cases hs2:sg (hd R.q (R.T.drop (i + 2))) [93] with
   | true=>
    rw [if_neg (by simp)]
    have hts:=fun W (hW:Rd R W (i + 2) dp fp fy)=>zaz R [93] hW hs2
    clear hs2
    go_enter Tryz.func414,Tryz.ntmps414
    go_wp2_with fail
    refine ha.mono ?_
    rintro e w1 ⟨rfl,b1⟩
    have z_1:=b1.size
    have rd_2:=h.later b1
    have nd_3:=zab b1 hn
    have O_4:=O0.on b1
    clear h hn O0 ha
    go_wp2_with fail
    refine (hg _).mono ?_
    rintro e w2 ⟨rfl,b2⟩
    have z_5:=b2.size
    have rd_6:=rd_2.later b2
    have nd_7:=zab b2 nd_3
    have O_8:=O_4.on b2
    clear rd_2 nd_3 O_4
    go_wp2_with fail
    refine (htk _ rd_6).mono ?_
    rintro e w3 ⟨rfl,R3,o3⟩
    have z_9:=o3.size
    have nd_10:=o3.heap nd_7 (by simp <;> omega)
    have O_11:=O_8.trans o3 (by simp <;> omega)
    clear rd_6 nd_7 O_8
    go_wp2_with fail
    refine (htk3 _ R3).mono ?_
    rintro e w4 ⟨rfl,R4,o4⟩
    have z_12:=o4.size
    have nd_13:=o4.heap nd_10 (by simp <;> omega)
    have O_14:=O_11.trans o4 (by simp <;> omega)
    clear R3 nd_10 O_11
    have a_15:=bal (Below.refl (w4).heap.size (w4)) (.cells (tcs y) 161)
    have zz_15:=zbd (w4) (.cells (tcs y) 161)
    have z_16:=a_15.size
    have rd_17:=R4.later a_15
    have nd_18:=zab a_15 nd_13
    have O_19:=O_14.on a_15
    have tk_n15:=zac (w4) (.cells (tcs y) 161)
    clear R4 nd_13 O_14 a_15
    go_upto_region 5 with fail
    generalize w4.alloc (.cells (tcs y) 161) = w5 at *
    have c5:=(zaa tk_n15 5).trans rfl
    go_upto_region 6 with (refine zdt rfl 3 _ _ rfl nb 7 (.int .i64 y.d) rfl rfl f.arr 356 nd_18 (by simp) inf3 rfl ({ f with r:=y.d }:Nf).arr rfl ?_;intro w6 nd6 o6 z6)
    have z_20:=o6.size
    have rd_21:=rd_17.off o6 (by simp <;> omega)
    have O_22:=O_19.trans o6 (by simp <;> omega)
    clear tk_n15 c5 rd_17 O_19
    go_wp2_with fail
    refine (hts _ rd_21).mono ?_
    rintro e w7 ⟨rfl,R7,o7⟩
    have z_23:=o7.size
    have O_24:=O_22.trans o7 (by simp <;> omega)
    have nd_25:=o7.heap nd6 (by simp <;> omega)
    clear rd_21 O_22 nd6
    go_wp2_with fail
    go_ret
    exact ⟨i + 3,fp,fy,rfl,rfl,R7,nd_25,O_24⟩
   | false=>
    rw [if_pos rfl]
    have hts:=fun W (hW:Rd R W (i + 2) dp fp fy)=>zbp R [93] hW hs2
    clear hs2
    unfold bad
    generalize hd R.q (R.T.drop (i + 2)) = z at *
    go_enter Tryz.func414,Tryz.ntmps414
    go_wp2_with fail
    refine ha.mono ?_
    rintro e w1 ⟨rfl,b1⟩
    have z_1:=b1.size
    have rd_2:=h.later b1
    have nd_3:=zab b1 hn
    have O_4:=O0.on b1
    clear h hn O0 ha
    go_wp2_with fail
    refine (hg _).mono ?_
    rintro e w2 ⟨rfl,b2⟩
    have z_5:=b2.size
    have rd_6:=rd_2.later b2
    have nd_7:=zab b2 nd_3
    have O_8:=O_4.on b2
    clear rd_2 nd_3 O_4
    go_wp2_with fail
    refine (htk _ rd_6).mono ?_
    rintro e w3 ⟨rfl,R3,o3⟩
    have z_9:=o3.size
    have nd_10:=o3.heap nd_7 (by simp <;> omega)
    have O_11:=O_8.trans o3 (by simp <;> omega)
    clear rd_6 nd_7 O_8
    go_wp2_with fail
    refine (htk3 _ R3).mono ?_
    rintro e w4 ⟨rfl,R4,o4⟩
    have z_12:=o4.size
    have nd_13:=o4.heap nd_10 (by simp <;> omega)
    have O_14:=O_11.trans o4 (by simp <;> omega)
    clear R3 nd_10 O_11
    have a_15:=bal (Below.refl (w4).heap.size (w4)) (.cells (tcs y) 161)
    have zz_15:=zbd (w4) (.cells (tcs y) 161)
    have z_16:=a_15.size
    have rd_17:=R4.later a_15
    have nd_18:=zab a_15 nd_13
    have O_19:=O_14.on a_15
    have tk_n15:=zac (w4) (.cells (tcs y) 161)
    clear R4 nd_13 O_14 a_15
    go_upto_region 5 with fail
    generalize w4.alloc (.cells (tcs y) 161) = w5 at *
    have c5:=(zaa tk_n15 5).trans rfl
    go_upto_region 6 with (refine zdt rfl 3 _ _ rfl nb 7 (.int .i64 y.d) rfl rfl f.arr 356 nd_18 (by simp) inf3 rfl ({ f with r:=y.d }:Nf).arr rfl ?_;intro w6 nd6 o6 z6)
    have z_20:=o6.size
    have rd_21:=rd_17.off o6 (by simp <;> omega)
    have O_22:=O_19.trans o6 (by simp <;> omega)
    clear tk_n15 c5 rd_17 O_19
    go_wp2_with fail
    refine (hts _ rd_21).mono ?_
    rintro e w7 ⟨rfl,R7,o7⟩
    have z_23:=o7.size
    have O_24:=O_22.trans o7 (by simp <;> omega)
    have nd_25:=o7.heap nd6 (by simp <;> omega)
    clear rd_21 O_22 nd6
    go_wp2_with fail
    go_ret
    exact ⟨y.d,i + 2,rfl,R7,nd_25,O_24⟩
  rw [if_pos hk]
  have htk3:=fun W (hW:Rd R W (i + 1) dp fp fy)=>zcv R 3 hW hk
  clear hk
  unfold bad
  generalize hd R.q (R.T.drop (i + 1)) = z at *
  obtain ⟨y,hy⟩:∃ y,y = tk0:=⟨_,rfl⟩
  rw [← hy] at htk3
  clear hy
  go_enter Tryz.func414,Tryz.ntmps414
  go_wp2_with fail
  refine ha.mono ?_
  rintro e w1 ⟨rfl,b1⟩
  have z_1:=b1.size
  have rd_2:=h.later b1
  have nd_3:=zab b1 hn
  have O_4:=O0.on b1
  clear h hn O0 ha
  go_wp2_with fail
  refine (hg _).mono ?_
  rintro e w2 ⟨rfl,b2⟩
  have z_5:=b2.size
  have rd_6:=rd_2.later b2
  have nd_7:=zab b2 nd_3
  have O_8:=O_4.on b2
  clear rd_2 nd_3 O_4
  go_wp2_with fail
  refine (htk _ rd_6).mono ?_
  rintro e w3 ⟨rfl,R3,o3⟩
  have z_9:=o3.size
  have nd_10:=o3.heap nd_7 (by simp <;> omega)
  have O_11:=O_8.trans o3 (by simp <;> omega)
  clear rd_6 nd_7 O_8
  go_wp2_with fail
  refine (htk3 _ R3).mono ?_
  rintro e w4 ⟨rfl,R4,o4⟩
  have z_12:=o4.size
  have nd_13:=o4.heap nd_10 (by simp <;> omega)
  have O_14:=O_11.trans o4 (by simp <;> omega)
  clear R3 nd_10 O_11
  have a_15:=bal (Below.refl (w4).heap.size (w4)) (.cells (tcs y) 161)
  have zz_15:=zbd (w4) (.cells (tcs y) 161)
  have z_16:=a_15.size
  have rd_17:=R4.later a_15
  have nd_18:=zab a_15 nd_13
  have O_19:=O_14.on a_15
  have tk_n15:=zac (w4) (.cells (tcs y) 161)
  clear R4 nd_13 O_14 a_15
  go_upto_region 5 with fail
  generalize w4.alloc (.cells (tcs y) 161) = w5 at *
  have c5:=(zaa tk_n15 5).trans rfl
  go_upto_region 6 with (refine zdt rfl 3 _ _ rfl nb 7 (.int .i64 y.d) rfl rfl f.arr 356 nd_18 (by simp) inf3 rfl ({ f with r:=y.d }:Nf).arr rfl ?_;intro w6 nd6 o6 z6)
  have z_20:=o6.size
  have rd_21:=rd_17.off o6 (by simp <;> omega)
  have O_22:=O_19.trans o6 (by simp <;> omega)
  clear tk_n15 c5 rd_17 O_19
  go_wp2_with fail
  go_ret
  exact ⟨y.d,i + 1,rfl,rd_21,nd6,O_22⟩
def OutP (R:Rc) (w:World) (dp:Int) (res:Rs Ex) (e:Ending) (w':World):Prop:=
 match res with
 | .inr x=>∃ cs j fp fy,e = .returned (.tuple #[.agg cs,.bool true]) ∧ x.2 = R.T.drop j ∧ Tr w.heap.size w' x.1 cs ∧ Rd R w' j dp fp fy ∧ Off [R.b] w w'
 | .inl er=>∃ cs j,e = .returned (.tuple #[.agg cs,.bool false]) ∧ Row 13 cs ∧ Rd R w' j dp er.1 er.2 ∧ Off [R.b] w w'
theorem zbv {ops:Array Oper} {o:Oper} {a:Act} {W:World} {K:Act → World → Prop} {Q:Exit → Act → World → Prop} {E:Prop} (ty:TypeId) (x y:Operand) (d:Option Tmp) (ho:o.op = .store ty x y) (hd:o.dst = d) (hw:Region.wanted o (yielded ops a.tmps) = true) (g i:Nat) (v:Value)
  (hx:a.eval x = .pointer (some ⟨g,i,none⟩)) (hy:a.eval y = v) (cs:Array Value) (t:TypeId) (hold:W.heap[g]? = some (.cells cs t)) (hi:i < cs.size) (hin:(Tryz.prog.info? ty).map (·.size) = some 1) (hv:v.oneCell' = true) (cs':Array Value) (hcs:cs.setIfInBounds i v = cs')
  (h:∀ W',W'.heap[g]? = some (.cells cs' t) → Off [g] W W' → W'.heap.size = W.heap.size → K (a.put d undef) W'):if Region.wanted o (yielded ops a.tmps) = true then Oper.wp Tryz.prog o a W K Q else E:=by
 subst hd
 rw [if_pos hw]
 have k:=h _ (by have:=zbe hold i v;rw [hcs] at this;exact this) (zbr _ _ _ _) (by simp [World.setCell])
 unfold Oper.wp execOp
 simp only [ho,hx,hy,Instr.storeAt,Instr.sureAddr,Sem.run_bind,Sem.run_pure,Result.andThen_ok,run_st W g i ty v cs t hold hi hin hv]
 exact k
theorem fld3 (x:Tk) (W:World):(Instr.field 161 (tv x) 3).run Tryz.prog W = .ok (.agg #[.bool x.o,.int .i64 x.n]) W:=by kernel_rfl
abbrev zE:Array Value:=#[.int .i64 0,.int .i64 0,.bool false,.int .i64 0,.string ⟨#[]⟩,.slice none 0 0,.int .i64 0,.bool false,.bool false,.bool false,.bool false,.slice none 0 0,.slice none 0 0]
theorem bZ (w:World):Below w.heap.size w (w.alloc (.cells zE 28)):=bal (Below.refl w.heap.size w) (.cells zE 28)
theorem cZ (w:World):(w.alloc (.cells zE 28)).heap[w.heap.size]? = some (.cells zE 28):=zac w (.cells zE 28)
theorem fZ (w:World):w.heap.size + 1 ≤ (w.alloc (.cells zE 28)).heap.size:=zaf w (.cells zE 28)
theorem rowZ:Row 13 zE:=⟨rfl,rfl⟩
set_option maxRecDepth 20000 in
theorem zog (R:Rc) {w:World} {i:Nat} {dp fp fy:Int} (h:Rd R w i dp fp fy) (hk:(hd R.q (R.T.drop i)).k = 2) :
  Calls Tryz.prog 387 #[R.ptr] w (OutP R w dp (.inr (eNum (hd R.q (R.T.drop i)).p (hd R.q (R.T.drop i)).o (hd R.q (R.T.drop i)).n,R.T.drop (i + 1)))):=by
 have hi:=zih h (by rw [hk];decide)
 have hbl:=h.bl
 have htk:=fun W (hW:Rd R W i dp fp fy)=>zbo R hW hi
 have hhere:=fun W (hW:Rd R W i dp fp fy)=>zdb R hW
 clear hk
 generalize hd R.q (R.T.drop i) = x at *
 have hf:=fld3 x
 go_enter Tryz.func387,Tryz.ntmps387
 have O0:=Off.refl [R.b] w
 have a_1:=bZ w
 have zz_1:=fZ w
 have z_2:=a_1.size
 have rd_3:=h.later a_1
 have O_4:=O0.on a_1
 have res_n1:=cZ w
 clear h O0 a_1
 go_wp2_with fail
 refine (hhere _ rd_3).mono ?_
 rintro e w1 ⟨rfl,b1⟩
 have z_5:=b1.size
 have rd_6:=rd_3.later b1
 have O_7:=O_4.on b1
 have res_8:=zab b1 res_n1
 clear rd_3 O_4 res_n1
 go_wp2_with fail
 refine (zcf x.p 1 _).mono ?_
 rintro e w2 ⟨rfl,b2⟩
 have z_9:=b2.size
 have rd_10:=rd_6.later b2
 have O_11:=O_7.on b2
 have res_12:=zab b2 res_8
 clear rd_6 O_7 res_8
 have a_13:=bal (Below.refl (w2).heap.size (w2)) (.cells (ndA x.p 1 0 false 0 [] nl 0 false false false false nl nl) 356)
 have zz_13:=zaf (w2) (.cells (ndA x.p 1 0 false 0 [] nl 0 false false false false nl nl) 356)
 have z_14:=a_13.size
 have rd_15:=rd_10.later a_13
 have O_16:=O_11.on a_13
 have res_17:=zab a_13 res_12
 have nd_n13:=zac (w2) (.cells (ndA x.p 1 0 false 0 [] nl 0 false false false false nl nl) 356)
 clear rd_10 O_11 res_12 a_13
 go_upto_region 2 with fail
 generalize w2.alloc (.cells (ndA x.p 1 0 false 0 [] nl 0 false false false false nl nl) 356) = w3 at *
 go_wp2_with fail
 refine (htk _ rd_15).mono ?_
 rintro e w4 ⟨rfl,R4,o4⟩
 have z_18:=o4.size
 have O_19:=O_16.trans o4 (by simp <;> omega)
 have res_20:=o4.heap res_17 (by simp <;> omega)
 have nd_21:=o4.heap nd_n13 (by simp <;> omega)
 clear rd_15 O_16 res_17 nd_n13
 have c3:=(zaa nd_21 3).trans rfl
 have c4:=(zaa nd_21 4).trans rfl
 have f3:=zce nd_21 3
 have f4:=zce nd_21 4
 have s1:=zbe nd_21 3 (.bool x.o)
 have s2:=zbe s1 4 (.int .i64 x.n)
 have p1:=zbr w4 w2.heap.size 3 (.bool x.o)
 have p2:=zbr (w4.setCell ⟨w2.heap.size,3,none⟩ (.bool x.o)) w2.heap.size 4 (.int .i64 x.n)
 have p3:=p1.then p2
 clear s1 p1 p2
 go_upto_region 3 with fail
 generalize (w4.setCell ⟨w2.heap.size,3,none⟩ (.bool x.o)).setCell ⟨w2.heap.size,4,none⟩ (.int .i64 x.n) = w5 at *
 clear c3 c4 f3 f4 nd_21
 have nd5:w5.heap[w2.heap.size]? = some (.cells (ndA x.p 1 0 x.o x.n [] nl 0 false false false false nl nl) 356):=s2
 clear s2
 have z_22:=p3.size
 have rd_23:=R4.off p3 (by simp <;> omega)
 have O_24:=O_19.trans p3 (by simp <;> omega)
 have res_25:=p3.heap res_20 (by simp <;> omega)
 clear R4 O_19 res_20
 go_wp2_with (refine zaj rfl 356 _ rfl w2.heap.size (ndA x.p 1 0 x.o x.n [] nl 0 false false false false nl nl) 356 rfl nd5 _ Tryz.underlying356 rfl 14 zcd rfl ?_)
 refine (znn x.p 1 0 x.o x.n [] none 0 0 0 false false false false none 0 0 none 0 0 _).mono ?_
 rintro e w6 ⟨rfl,b6⟩
 have z_26:=b6.size
 have rd_27:=rd_23.later b6
 have O_28:=O_24.on b6
 have res_29:=zab b6 res_25
 clear nd5 rd_23 O_24 res_25
 go_wp2_with (refine zad rfl 28 _ _ rfl w.heap.size (exA 1 x.p x.o x.n [] nl 0 false false false false nl nl) rfl rfl _ 28 res_29 13 zae rfl ⟨rfl,rfl⟩ ?_;intro w7 r7 o7 z7)
 have z_30:=o7.size
 have rd_31:=rd_27.off o7 (by simp <;> omega)
 have O_32:=O_28.trans o7 (by simp <;> omega)
 exact bodyPost_ret (zai Tryz.results387 _ _ w.heap.size 28 (exA 1 x.p x.o x.n [] nl 0 false false false false nl nl) _ rfl r7 Tryz.underlying28 rfl 13 zae rfl) rfl ⟨(exA 1 x.p x.o x.n [] nl 0 false false false false nl nl),i + 1,fp,fy,rfl,rfl,Tr.leaf (Sl.nil _ _ _) (Sl.nil _ _ _),rd_31,O_32⟩
set_option maxRecDepth 20000 in
theorem zfe (R:Rc) {w:World} {i:Nat} {dp fp fy:Int} (h:Rd R w i dp fp fy):Calls Tryz.prog 390 #[R.ptr] w (OutP R w dp (selP R.q (R.T.drop i))):=by
 obtain ⟨i0,hi0,hz0,hz1,hz2⟩:=zfj
 have hbl:=h.bl
 have hib:=h.ib
 have hhere:=fun W (hW:Rd R W i dp fp fy)=>zdb R hW
 have hah:=fun W (hW:Rd R W i dp fp fy)=>zao R hW
 by_cases hk:(hd R.q (R.T.drop i)).k = 1
 ·
  have hi:=zih h (by rw [hk];decide)
  have htk:=fun W (hW:Rd R W i dp fp fy)=>zbo R hW hi
  have hk1:((hd R.q (R.T.drop i)).k == 1) = true:=beq_iff_eq.2 hk
  have HS:Hid (selP R.q (R.T.drop i) = bnd (brP R.q [⟨nmL,1,(hd R.q (R.T.drop i)).t⟩] (R.T.drop (i + 1))) fun y=>bnd (wnP R.q y.2) fun z=>.inr (eSel (hd R.q (R.T.drop i)).p y.1 z.1,z.2)):=by
   show _ = _
   unfold selP selA selL
   rw [if_pos hk,if_pos hk,List.tail_drop]
  generalize selP R.q (R.T.drop i) = RES at *
  clear hk
  generalize hd R.q (R.T.drop i) = x at *
  go_enter Tryz.func390,Tryz.ntmps390
  have O0:=Off.refl [R.b] w
  have a_1:=bZ w
  have zz_1:=fZ w
  have z_2:=a_1.size
  have rd_3:=h.later a_1
  have O_4:=O0.on a_1
  have res_n1:=cZ w
  clear h O0 a_1
  go_wp2_with fail
  refine (hhere _ rd_3).mono ?_
  rintro e w1 ⟨rfl,b1⟩
  have z_5:=b1.size
  have rd_6:=rd_3.later b1
  have O_7:=O_4.on b1
  have res_8:=zab b1 res_n1
  clear rd_3 O_4 res_n1
  go_wp2_with fail
  refine (zcf x.p 2 _).mono ?_
  rintro e w2 ⟨rfl,b2⟩
  have z_9:=b2.size
  have rd_10:=rd_6.later b2
  have O_11:=O_7.on b2
  have res_12:=zab b2 res_8
  clear rd_6 O_7 res_8
  have a_13:=bal (Below.refl (w2).heap.size (w2)) (.cells (ndA x.p 2 0 false 0 [] nl 0 false false false false nl nl) 356)
  have zz_13:=zaf (w2) (.cells (ndA x.p 2 0 false 0 [] nl 0 false false false false nl nl) 356)
  have z_14:=a_13.size
  have rd_15:=rd_10.later a_13
  have O_16:=O_11.on a_13
  have res_17:=zab a_13 res_12
  have nd_n13:=zac (w2) (.cells (ndA x.p 2 0 false 0 [] nl 0 false false false false nl nl) 356)
  clear rd_10 O_11 res_12 a_13
  go_upto_region 2 with fail
  generalize w2.alloc (.cells (ndA x.p 2 0 false 0 [] nl 0 false false false false nl nl) 356) = w3 at *
  have hgt:R.b < w2.heap.size:=by omega
  have Ob0:=Off.refl [R.b,w2.heap.size] w3
  go_wp2_with fail
  refine (hah _ rd_15).mono ?_
  rintro e w4 ⟨rfl,b4⟩
  have z_18:=b4.size
  have rd_19:=rd_15.later b4
  have nd_20:=zab b4 nd_n13
  have Ob_21:=Ob0.on b4
  clear rd_15 nd_n13 Ob0
  have a_22:=bal (Below.refl (w4).heap.size (w4)) (.cells (tcs x) 161)
  have zz_22:=zaf (w4) (.cells (tcs x) 161)
  have z_23:=a_22.size
  have rd_24:=rd_19.later a_22
  have nd_25:=zab a_22 nd_20
  have Ob_26:=Ob_21.on a_22
  have tk_n22:=zac (w4) (.cells (tcs x) 161)
  clear rd_19 nd_20 Ob_21 a_22
  go_upto_region 3 with fail
  generalize w4.alloc (.cells (tcs x) 161) = w5 at *
  have c0:=(zaa tk_n22 0).trans rfl
  go_upto_region 4 with fail
  clear c0
  go_wp2_with fail
  refine (htk _ rd_24).mono ?_
  rintro e w6 ⟨rfl,R6,o6⟩
  have z_27:=o6.size
  have nd_28:=o6.heap nd_25 (by simp <;> omega)
  have Ob_29:=Ob_26.trans o6 (by simp <;> omega)
  have tk_30:=o6.heap tk_n22 (by simp <;> omega)
  clear rd_24 nd_25 Ob_26 tk_n22
  go_upto_region 5 with fail
  have c2:=(zaa tk_30 2).trans rfl
  have c6:=(zaa nd_28 6).trans rfl
  have a_31:=bal (Below.refl (w6).heap.size (w6)) (.cells #[tx [95,95,110,97,109,101,95,95],.int .i64 1,tx x.t] 57)
  have zz_31:=zaf (w6) (.cells #[tx [95,95,110,97,109,101,95,95],.int .i64 1,tx x.t] 57)
  have z_32:=a_31.size
  have rd_33:=R6.later a_31
  have nd_34:=zab a_31 nd_28
  have Ob_35:=Ob_29.on a_31
  have tk_36:=zab a_31 tk_30
  have mt_n31:=zac (w6) (.cells #[tx [95,95,110,97,109,101,95,95],.int .i64 1,tx x.t] 57)
  clear R6 nd_28 Ob_29 tk_30 a_31
  have o0:World.ownsRow (w6.alloc (.cells #[tx [95,95,110,97,109,101,95,95],.int .i64 1,tx x.t] 57)) w3.heap.size 57 3 (.slice none 0 0) 0 []:=⟨rfl,Or.inl ⟨rfl,rfl⟩⟩
  go_wp2_with (at_builtin;go_must (refine wpList_append_own _ rfl _ _ 24 rfl w3.heap.size 57 i0 (.agg #[tx [],.int .i64 0,tx []]) 3 40 Tryz.underlying24 hi0 hz0 hz1 hz2 rfl (by decide) _ _ _ rfl o0 ⟨w6.heap.size,0,none⟩ 1 1 [tx [95,95,110,97,109,101,95,95],.int .i64 1,tx x.t] rfl rfl ?hnews ?hone ?h63 ?hby ?hbs ?_))
  case hnews=>
   intro j u hu
   rw [Addr.add_lit,Nat.zero_add,zaa mt_n31 j]
   simpa using hu
  case hone=>
   intro u hu
   simp only [List.mem_cons,List.not_mem_nil,or_false] at hu
   rcases hu with rfl | rfl | rfl <;> rfl
  case h63=>decide
  case hby=>decide
  case hbs=>exact Nat.le_trans (show w3.heap.size ≤ w6.heap.size by omega) (by simp)
  intro v7 w7 own7 hg7 _
  have b7:Below _ _ w7:=(zas (row:=none) hg7).below (fun _ hx=>by cases hx)
  have z_37:=b7.size
  have rd_38:=rd_33.later b7
  have nd_39:=zab b7 nd_34
  have Ob_40:=Ob_35.on b7
  clear c2 c6 o0 hg7 mt_n31 tk_36 rd_33 nd_34 Ob_35
  obtain ⟨ao,cap,rfl⟩:∃ ao cap,v7 = .slice ao 1 cap:=by
   rcases own7.2 with ⟨_,h0⟩ | ⟨g,cap,cur,e,_⟩
   ·
    omega
   exact ⟨_,_,e⟩
  have om7:OwnM w7 w3.heap.size (.slice ao 1 cap) [⟨nmL,1,x.t⟩]:=own7
  clear own7
  go_upto_region 6 with (refine zdt rfl 24 _ _ rfl w2.heap.size 6 (.slice ao 1 cap) rfl rfl (ndA x.p 2 0 false 0 [] nl 0 false false false false nl nl) 356 nd_39 (by simp) inf25 rfl (ndA x.p 2 0 false 0 [] (.slice ao 1 cap) 0 false false false false nl nl) rfl ?_;intro w8 nd8 o8 z8)
  have z_41:=o8.size
  have rd_42:=rd_38.off o8 (by simp <;> omega)
  have Ob_43:=Ob_40.trans o8 (by simp <;> omega)
  have om_44:=om7.kept o8 (by simp <;> omega)
  clear nd_39 rd_38 Ob_40 om7
  clear z8
  have hbr:=zhm R (wb:=w3) (nb:=w2.heap.size) (f:=(⟨x.p,2,0,false,0,[],.slice ao 1 cap,0,false,false,false,false,nl,nl⟩:Nf)) [⟨nmL,1,x.t⟩] rfl (show Hid (([⟨nmL,1,x.t⟩]:List Mt).length = 1) from rfl) rd_42 nd8 om_44 Ob_43 hgt (by omega) (by omega)
  cases hb:brP R.q [⟨nmL,1,x.t⟩] (R.T.drop (i + 1)) with
  | inr y=>
   rw [hb] at hbr HS
   go_wp2_with fail
   refine hbr.mono ?_
   rintro e w9 ⟨am,m,cm,j,fp9,fy9,rfl,hyl,R9,nd9,om9,Ob9⟩
   clear hbr rd_42 nd8 om_44 Ob_43
   have z9:=Ob9.size
   obtain ⟨ys,yl⟩:=y
   dsimp only at *
   subst hyl
   have hwn:=zgu R (nb:=w2.heap.size) (f:=(⟨x.p,2,0,false,0,[],.slice am m cm,0,false,false,false,false,nl,nl⟩:Nf)) R9 nd9 hgt rfl
   cases hw:wnP R.q (R.T.drop j) with
   | inr z=>
    obtain ⟨zr,zl⟩:=z
    rw [hw] at hwn
    have HX:Hid (RES = .inr (eSel x.p ys zr,zl)):=by show _ = _;rw [HS.out];show bnd (wnP R.q (R.T.drop j)) _ = _;rw [hw];rfl
    clear HS hw
    go_wp2_with fail
    refine hwn.mono ?_
    rintro e w10 ⟨j2,fp10,fy10,rfl,hzl,R10,nd10,o10⟩
    have z_45:=o10.size
    have om_46:=om9.kept o10 (by simp <;> omega)
    have Ob_47:=Ob9.trans o10 (by simp <;> omega)
    clear hwn nd9 R9 om9 Ob9
    go_wp2_with (refine zaj rfl 356 _ rfl w2.heap.size (⟨x.p,2,0,false,0,[],.slice am m cm,zr,false,false,false,false,nl,nl⟩:Nf).arr 356 rfl nd10 _ Tryz.underlying356 rfl 14 zcd rfl ?_)
    refine (zdd (⟨x.p,2,0,false,0,[],.slice am m cm,zr,false,false,false,false,nl,nl⟩:Nf) ⟨⟨_,_,_,rfl⟩,⟨_,_,_,rfl⟩,⟨_,_,_,rfl⟩⟩ _).mono ?_
    rintro e wd ⟨rfl,bd⟩
    have z_48:=bd.size
    have rd_49:=R10.later bd
    have om_50:=om_46.later bd
    have Ob_51:=Ob_47.on bd
    clear nd10 R10 om_46 Ob_47
    have rs:=Ob_51.heap res_17 (by simp <;> omega)
    go_wp2_with (refine zad rfl 28 _ _ rfl w.heap.size (⟨x.p,2,0,false,0,[],.slice am m cm,zr,false,false,false,false,nl,nl⟩:Nf).ex rfl rfl _ 28 rs 13 zae rfl ⟨rfl,rfl⟩ ?_;intro we re oe ze)
    have OF0:=O_16.trans Ob_51 (by simp <;> omega)
    have z_52:=oe.size
    have rd_53:=rd_49.off oe (by simp <;> omega)
    have om_54:=om_50.kept oe (by simp <;> omega)
    have OF_55:=OF0.trans oe (by simp <;> omega)
    rw [HX.out]
    exact bodyPost_ret (zai Tryz.results390 _ _ w.heap.size 28 (⟨x.p,2,0,false,0,[],.slice am m cm,zr,false,false,false,false,nl,nl⟩:Nf).ex _ rfl re Tryz.underlying28 rfl 13 zae rfl) rfl ⟨(⟨x.p,2,0,false,0,[],.slice am m cm,zr,false,false,false,false,nl,nl⟩:Nf).ex,j2,fp10,fy10,rfl,hzl,Tr.leaf ((Sl.owns om_54 (zcu _)).lower (by omega)) (Sl.nil _ _ _),rd_53,OF_55⟩
   | inl er=>
    rw [hw] at hwn
    have HX:Hid (RES = .inl er):=by show _ = _;rw [HS.out];show bnd (wnP R.q (R.T.drop j)) _ = _;rw [hw];rfl
    clear HS hw
    go_wp2_with fail
    refine hwn.mono ?_
    rintro e w10 ⟨r10,j2,rfl,R10,nd10,o10⟩
    have z_45:=o10.size
    have om_46:=om9.kept o10 (by simp <;> omega)
    have Ob_47:=Ob9.trans o10 (by simp <;> omega)
    clear hwn nd9 R9 om9 Ob9
    go_wp2_with (refine zaj rfl 356 _ rfl w2.heap.size (⟨x.p,2,0,false,0,[],.slice am m cm,r10,false,false,false,false,nl,nl⟩:Nf).arr 356 rfl nd10 _ Tryz.underlying356 rfl 14 zcd rfl ?_)
    refine (zdd (⟨x.p,2,0,false,0,[],.slice am m cm,r10,false,false,false,false,nl,nl⟩:Nf) ⟨⟨_,_,_,rfl⟩,⟨_,_,_,rfl⟩,⟨_,_,_,rfl⟩⟩ _).mono ?_
    rintro e wd ⟨rfl,bd⟩
    have z_48:=bd.size
    have rd_49:=R10.later bd
    have om_50:=om_46.later bd
    have Ob_51:=Ob_47.on bd
    clear nd10 R10 om_46 Ob_47
    have rs:=Ob_51.heap res_17 (by simp <;> omega)
    go_wp2_with (refine zad rfl 28 _ _ rfl w.heap.size (⟨x.p,2,0,false,0,[],.slice am m cm,r10,false,false,false,false,nl,nl⟩:Nf).ex rfl rfl _ 28 rs 13 zae rfl ⟨rfl,rfl⟩ ?_;intro we re oe ze)
    have OF0:=O_16.trans Ob_51 (by simp <;> omega)
    have z_52:=oe.size
    have rd_53:=rd_49.off oe (by simp <;> omega)
    have om_54:=om_50.kept oe (by simp <;> omega)
    have OF_55:=OF0.trans oe (by simp <;> omega)
    rw [HX.out]
    exact bodyPost_ret (zai Tryz.results390 _ _ w.heap.size 28 (⟨x.p,2,0,false,0,[],.slice am m cm,r10,false,false,false,false,nl,nl⟩:Nf).ex _ rfl re Tryz.underlying28 rfl 13 zae rfl) rfl ⟨(⟨x.p,2,0,false,0,[],.slice am m cm,r10,false,false,false,false,nl,nl⟩:Nf).ex,j2,rfl,⟨rfl,rfl⟩,rd_53,OF_55⟩
  | inl er=>
   rw [hb] at hbr HS
   have HX:Hid (RES = .inl er):=HS
   clear HS
   go_wp2_with fail
   refine hbr.mono ?_
   rintro e w9 ⟨am,m,cm,j,rfl,R9,nd9,Ob9⟩
   clear hbr rd_42 nd8 om_44 Ob_43
   have z9:=Ob9.size
   go_wp2_with (refine zaj rfl 356 _ rfl w2.heap.size (⟨x.p,2,0,false,0,[],.slice am m cm,0,false,false,false,false,nl,nl⟩:Nf).arr 356 rfl nd9 _ Tryz.underlying356 rfl 14 zcd rfl ?_)
   refine (zdd (⟨x.p,2,0,false,0,[],.slice am m cm,0,false,false,false,false,nl,nl⟩:Nf) ⟨⟨_,_,_,rfl⟩,⟨_,_,_,rfl⟩,⟨_,_,_,rfl⟩⟩ _).mono ?_
   rintro e wd ⟨rfl,bd⟩
   have z_45:=bd.size
   have rd_46:=R9.later bd
   have Ob_47:=Ob9.on bd
   clear nd9 R9 Ob9
   have rs:=Ob_47.heap res_17 (by simp <;> omega)
   go_wp2_with (refine zad rfl 28 _ _ rfl w.heap.size (⟨x.p,2,0,false,0,[],.slice am m cm,0,false,false,false,false,nl,nl⟩:Nf).ex rfl rfl _ 28 rs 13 zae rfl ⟨rfl,rfl⟩ ?_;intro we re oe ze)
   have OF0:=O_16.trans Ob_47 (by simp <;> omega)
   have z_48:=oe.size
   have rd_49:=rd_46.off oe (by simp <;> omega)
   have OF_50:=OF0.trans oe (by simp <;> omega)
   rw [HX.out]
   exact bodyPost_ret (zai Tryz.results390 _ _ w.heap.size 28 (⟨x.p,2,0,false,0,[],.slice am m cm,0,false,false,false,false,nl,nl⟩:Nf).ex _ rfl re Tryz.underlying28 rfl 13 zae rfl) rfl ⟨(⟨x.p,2,0,false,0,[],.slice am m cm,0,false,false,false,false,nl,nl⟩:Nf).ex,j,rfl,⟨rfl,rfl⟩,rd_49,OF_50⟩
 have hk1:((hd R.q (R.T.drop i)).k == 1) = false:=beq_eq_false_iff_ne.2 hk
 have HS:Hid (selP R.q (R.T.drop i) = bnd (brP R.q [] (R.T.drop i)) fun y=>bnd (wnP R.q y.2) fun z=>.inr (eSel (hd R.q (R.T.drop i)).p y.1 z.1,z.2)):=by
  show _ = _
  unfold selP selA selL
  rw [if_neg hk,if_neg hk]
 generalize selP R.q (R.T.drop i) = RES at *
 clear hk
 generalize hd R.q (R.T.drop i) = x at *
 go_enter Tryz.func390,Tryz.ntmps390
 have O0:=Off.refl [R.b] w
 have a_1:=bZ w
 have zz_1:=fZ w
 have z_2:=a_1.size
 have rd_3:=h.later a_1
 have O_4:=O0.on a_1
 have res_n1:=cZ w
 clear h O0 a_1
 go_wp2_with fail
 refine (hhere _ rd_3).mono ?_
 rintro e w1 ⟨rfl,b1⟩
 have z_5:=b1.size
 have rd_6:=rd_3.later b1
 have O_7:=O_4.on b1
 have res_8:=zab b1 res_n1
 clear rd_3 O_4 res_n1
 go_wp2_with fail
 refine (zcf x.p 2 _).mono ?_
 rintro e w2 ⟨rfl,b2⟩
 have z_9:=b2.size
 have rd_10:=rd_6.later b2
 have O_11:=O_7.on b2
 have res_12:=zab b2 res_8
 clear rd_6 O_7 res_8
 have a_13:=bal (Below.refl (w2).heap.size (w2)) (.cells (ndA x.p 2 0 false 0 [] nl 0 false false false false nl nl) 356)
 have zz_13:=zaf (w2) (.cells (ndA x.p 2 0 false 0 [] nl 0 false false false false nl nl) 356)
 have z_14:=a_13.size
 have rd_15:=rd_10.later a_13
 have O_16:=O_11.on a_13
 have res_17:=zab a_13 res_12
 have nd_n13:=zac (w2) (.cells (ndA x.p 2 0 false 0 [] nl 0 false false false false nl nl) 356)
 clear rd_10 O_11 res_12 a_13
 go_upto_region 2 with fail
 generalize w2.alloc (.cells (ndA x.p 2 0 false 0 [] nl 0 false false false false nl nl) 356) = w3 at *
 have hgt:R.b < w2.heap.size:=by omega
 have Ob0:=Off.refl [R.b,w2.heap.size] w3
 go_wp2_with fail
 refine (hah _ rd_15).mono ?_
 rintro e w4 ⟨rfl,b4⟩
 have z_18:=b4.size
 have rd_19:=rd_15.later b4
 have nd_20:=zab b4 nd_n13
 have Ob_21:=Ob0.on b4
 clear rd_15 nd_n13 Ob0
 have a_22:=bal (Below.refl (w4).heap.size (w4)) (.cells (tcs x) 161)
 have zz_22:=zaf (w4) (.cells (tcs x) 161)
 have z_23:=a_22.size
 have rd_24:=rd_19.later a_22
 have nd_25:=zab a_22 nd_20
 have Ob_26:=Ob_21.on a_22
 have tk_n22:=zac (w4) (.cells (tcs x) 161)
 clear rd_19 nd_20 Ob_21 a_22
 go_upto_region 3 with fail
 generalize w4.alloc (.cells (tcs x) 161) = w5 at *
 have c0:=(zaa tk_n22 0).trans rfl
 go_upto_region 6 with fail
 clear c0
 clear tk_n22
 have om5:=OwnM.nil w5 w3.heap.size
 have hbr:=zhm R (wb:=w3) (nb:=w2.heap.size) (f:=(⟨x.p,2,0,false,0,[],.slice none 0 0,0,false,false,false,false,nl,nl⟩:Nf)) [] rfl (show Hid (([]:List Mt).length = 0) from rfl) rd_24 nd_25 om5 Ob_26 hgt (by omega) (by omega)
 cases hb:brP R.q [] (R.T.drop i) with
 | inr y=>
  rw [hb] at hbr HS
  go_wp2_with fail
  refine hbr.mono ?_
  rintro e w9 ⟨am,m,cm,j,fp9,fy9,rfl,hyl,R9,nd9,om9,Ob9⟩
  clear hbr rd_24 nd_25 om5 Ob_26
  have z9:=Ob9.size
  obtain ⟨ys,yl⟩:=y
  dsimp only at *
  subst hyl
  have hwn:=zgu R (nb:=w2.heap.size) (f:=(⟨x.p,2,0,false,0,[],.slice am m cm,0,false,false,false,false,nl,nl⟩:Nf)) R9 nd9 hgt rfl
  cases hw:wnP R.q (R.T.drop j) with
  | inr z=>
   obtain ⟨zr,zl⟩:=z
   rw [hw] at hwn
   have HX:Hid (RES = .inr (eSel x.p ys zr,zl)):=by show _ = _;rw [HS.out];show bnd (wnP R.q (R.T.drop j)) _ = _;rw [hw];rfl
   clear HS hw
   go_wp2_with fail
   refine hwn.mono ?_
   rintro e w10 ⟨j2,fp10,fy10,rfl,hzl,R10,nd10,o10⟩
   have z_27:=o10.size
   have om_28:=om9.kept o10 (by simp <;> omega)
   have Ob_29:=Ob9.trans o10 (by simp <;> omega)
   clear hwn nd9 R9 om9 Ob9
   go_wp2_with (refine zaj rfl 356 _ rfl w2.heap.size (⟨x.p,2,0,false,0,[],.slice am m cm,zr,false,false,false,false,nl,nl⟩:Nf).arr 356 rfl nd10 _ Tryz.underlying356 rfl 14 zcd rfl ?_)
   refine (zdd (⟨x.p,2,0,false,0,[],.slice am m cm,zr,false,false,false,false,nl,nl⟩:Nf) ⟨⟨_,_,_,rfl⟩,⟨_,_,_,rfl⟩,⟨_,_,_,rfl⟩⟩ _).mono ?_
   rintro e wd ⟨rfl,bd⟩
   have z_30:=bd.size
   have rd_31:=R10.later bd
   have om_32:=om_28.later bd
   have Ob_33:=Ob_29.on bd
   clear nd10 R10 om_28 Ob_29
   have rs:=Ob_33.heap res_17 (by simp <;> omega)
   go_wp2_with (refine zad rfl 28 _ _ rfl w.heap.size (⟨x.p,2,0,false,0,[],.slice am m cm,zr,false,false,false,false,nl,nl⟩:Nf).ex rfl rfl _ 28 rs 13 zae rfl ⟨rfl,rfl⟩ ?_;intro we re oe ze)
   have OF0:=O_16.trans Ob_33 (by simp <;> omega)
   have z_34:=oe.size
   have rd_35:=rd_31.off oe (by simp <;> omega)
   have om_36:=om_32.kept oe (by simp <;> omega)
   have OF_37:=OF0.trans oe (by simp <;> omega)
   rw [HX.out]
   exact bodyPost_ret (zai Tryz.results390 _ _ w.heap.size 28 (⟨x.p,2,0,false,0,[],.slice am m cm,zr,false,false,false,false,nl,nl⟩:Nf).ex _ rfl re Tryz.underlying28 rfl 13 zae rfl) rfl ⟨(⟨x.p,2,0,false,0,[],.slice am m cm,zr,false,false,false,false,nl,nl⟩:Nf).ex,j2,fp10,fy10,rfl,hzl,Tr.leaf ((Sl.owns om_36 (zcu _)).lower (by omega)) (Sl.nil _ _ _),rd_35,OF_37⟩
  | inl er=>
   rw [hw] at hwn
   have HX:Hid (RES = .inl er):=by show _ = _;rw [HS.out];show bnd (wnP R.q (R.T.drop j)) _ = _;rw [hw];rfl
   clear HS hw
   go_wp2_with fail
   refine hwn.mono ?_
   rintro e w10 ⟨r10,j2,rfl,R10,nd10,o10⟩
   have z_27:=o10.size
   have om_28:=om9.kept o10 (by simp <;> omega)
   have Ob_29:=Ob9.trans o10 (by simp <;> omega)
   clear hwn nd9 R9 om9 Ob9
   go_wp2_with (refine zaj rfl 356 _ rfl w2.heap.size (⟨x.p,2,0,false,0,[],.slice am m cm,r10,false,false,false,false,nl,nl⟩:Nf).arr 356 rfl nd10 _ Tryz.underlying356 rfl 14 zcd rfl ?_)
   refine (zdd (⟨x.p,2,0,false,0,[],.slice am m cm,r10,false,false,false,false,nl,nl⟩:Nf) ⟨⟨_,_,_,rfl⟩,⟨_,_,_,rfl⟩,⟨_,_,_,rfl⟩⟩ _).mono ?_
   rintro e wd ⟨rfl,bd⟩
   have z_30:=bd.size
   have rd_31:=R10.later bd
   have om_32:=om_28.later bd
   have Ob_33:=Ob_29.on bd
   clear nd10 R10 om_28 Ob_29
   have rs:=Ob_33.heap res_17 (by simp <;> omega)
   go_wp2_with (refine zad rfl 28 _ _ rfl w.heap.size (⟨x.p,2,0,false,0,[],.slice am m cm,r10,false,false,false,false,nl,nl⟩:Nf).ex rfl rfl _ 28 rs 13 zae rfl ⟨rfl,rfl⟩ ?_;intro we re oe ze)
   have OF0:=O_16.trans Ob_33 (by simp <;> omega)
   have z_34:=oe.size
   have rd_35:=rd_31.off oe (by simp <;> omega)
   have om_36:=om_32.kept oe (by simp <;> omega)
   have OF_37:=OF0.trans oe (by simp <;> omega)
   rw [HX.out]
   exact bodyPost_ret (zai Tryz.results390 _ _ w.heap.size 28 (⟨x.p,2,0,false,0,[],.slice am m cm,r10,false,false,false,false,nl,nl⟩:Nf).ex _ rfl re Tryz.underlying28 rfl 13 zae rfl) rfl ⟨(⟨x.p,2,0,false,0,[],.slice am m cm,r10,false,false,false,false,nl,nl⟩:Nf).ex,j2,rfl,⟨rfl,rfl⟩,rd_35,OF_37⟩
 | inl er=>
  rw [hb] at hbr HS
  have HX:Hid (RES = .inl er):=HS
  clear HS
  go_wp2_with fail
  refine hbr.mono ?_
  rintro e w9 ⟨am,m,cm,j,rfl,R9,nd9,Ob9⟩
  clear hbr rd_24 nd_25 om5 Ob_26
  have z9:=Ob9.size
  go_wp2_with (refine zaj rfl 356 _ rfl w2.heap.size (⟨x.p,2,0,false,0,[],.slice am m cm,0,false,false,false,false,nl,nl⟩:Nf).arr 356 rfl nd9 _ Tryz.underlying356 rfl 14 zcd rfl ?_)
  refine (zdd (⟨x.p,2,0,false,0,[],.slice am m cm,0,false,false,false,false,nl,nl⟩:Nf) ⟨⟨_,_,_,rfl⟩,⟨_,_,_,rfl⟩,⟨_,_,_,rfl⟩⟩ _).mono ?_
  rintro e wd ⟨rfl,bd⟩
  have z_27:=bd.size
  have rd_28:=R9.later bd
  have Ob_29:=Ob9.on bd
  clear nd9 R9 Ob9
  have rs:=Ob_29.heap res_17 (by simp <;> omega)
  go_wp2_with (refine zad rfl 28 _ _ rfl w.heap.size (⟨x.p,2,0,false,0,[],.slice am m cm,0,false,false,false,false,nl,nl⟩:Nf).ex rfl rfl _ 28 rs 13 zae rfl ⟨rfl,rfl⟩ ?_;intro we re oe ze)
  have OF0:=O_16.trans Ob_29 (by simp <;> omega)
  have z_30:=oe.size
  have rd_31:=rd_28.off oe (by simp <;> omega)
  have OF_32:=OF0.trans oe (by simp <;> omega)
  rw [HX.out]
  exact bodyPost_ret (zai Tryz.results390 _ _ w.heap.size 28 (⟨x.p,2,0,false,0,[],.slice am m cm,0,false,false,false,false,nl,nl⟩:Nf).ex _ rfl re Tryz.underlying28 rfl 13 zae rfl) rfl ⟨(⟨x.p,2,0,false,0,[],.slice am m cm,0,false,false,false,false,nl,nl⟩:Nf).ex,j,rfl,⟨rfl,rfl⟩,rd_31,OF_32⟩
end Go.Proofs.YtjlaihekocjggaaGreatDoor
