/- Texts that the others lean on. -/
import Derived.Test.YtjlaihekocjggaaGreatDoorKMI
import Derived.Test.YtjlaihekocjggaaGreatDoorKMO
import Derived.Test.YtjlaihekocjggaaGreatDoorKMJ
import Derived.Test.YtjlaihekocjggaaGreatDoorKMK
set_option maxHeartbeats 16000000
namespace Go.Proofs.YtjlaihekocjggaaGreatDoor
open Go.RowKit
def szG (_:Ex) (l:List Nat):Nat:=1 + l.sum
def sz (e:Ex):Nat:=foldE szG e
def szL:List Ex → Nat
 | []=>0
 | x :: l=>sz x + szL l
theorem szL_map:∀ l,szL l = (l.map sz).sum
 | []=>rfl
 | x :: l=>by rw [szL,szL_map l];rfl
theorem sz_eq (e:Ex):sz e = 1 + szL e.ks:=by
 unfold sz
 rw [zdo,szL_map]
 rfl
theorem zko (k p:Int) (o:Bool) (v:Int) (s:Str) (m:List Mt) (r:Int) (b1 b2 b3 b4:Bool) (ns:List Str) (ks:List Ex):sz ⟨k,p,o,v,s,m,r,b1,b2,b3,b4,ns,ks⟩ = 1 + szL ks:=sz_eq _
theorem zep:∀ (l m:List Ex),szL (l ++ m) = szL l + szL m
 | [],m=>by simp [szL]
 | x :: l,m=>by
  rw [List.cons_append,szL,szL,zep l m]
  omega
theorem szL_step (l:List Ex) (k:Nat) (x:Ex) (h:l[k]? = some x):szL (l.take (k + 1)) = szL (l.take k) + sz x:=by
 obtain ⟨hk,rfl⟩:=List.getElem?_eq_some_iff.1 h
 rw [List.take_succ_eq_append_getElem hk,zep]
 simp [szL]
theorem szL_take (l:List Ex) (k:Nat):szL (l.take k) ≤ szL l:=by
 have h:=zep (l.take k) (l.drop k)
 rw [List.take_append_drop] at h
 omega
def Sm:Ex → Prop
 | ⟨_,_,_,_,s,m,_,_,_,_,_,ns,ks⟩=>Big s ∧ (∀ x ∈ m,Big x.name ∧ Big x.text) ∧ (∀ x ∈ ns,Big x) ∧ m.length ≤ 9223372036854775807 ∧ ns.length ≤ 9223372036854775807 ∧ ks.length ≤ 9223372036854775807 ∧ ∀ x,x ∈ ks → Sm x
theorem zpg (e:Ex):Sm e ↔ Big e.s ∧ (∀ x ∈ e.m,Big x.name ∧ Big x.text) ∧ (∀ x ∈ e.ns,Big x) ∧ e.m.length ≤ 9223372036854775807 ∧ e.ns.length ≤ 9223372036854775807 ∧ e.ks.length ≤ 9223372036854775807 ∧ ∀ x,x ∈ e.ks → Sm x:=by
 cases e
 rw [Sm]
def Cnt (e:Ex) (most r:Int):Prop:=1 ≤ r ∧ (r ≤ 1 ∨ r ≤ most + 1) ∧ (r ≤ most → r = sz e) ∧ (most < r → most < sz e)
def CountOK (P:Nat → Prop) (e:Ex):Prop:=Sm e → ∀ (w:World) (cs:Array Value) (most:Int),TrP P w e cs → 0 ≤ most → most ≤ 1000000 → Calls Tryz.prog 38 #[.agg cs,.int .i64 most] w fun x w'=>∃ r,x = .returned (.int .i64 r) ∧ Cnt e most r ∧ Below w.heap.size w w'
theorem count_ok {P:Nat → Prop} (e:Ex):CountOK P e:=by
 refine Ex.ind (CountOK P) ?_ e
 intro e ih hs w cs most h hm0 hm1
 obtain ⟨_,_,_,_,_,hn6,hks⟩:=(zpg e).1 hs
 have HM:Hid (∀ x,x ∈ e.ks → Sm x):=hks
 clear hs hks
 obtain ⟨vm,vn,ao,cap,rfl,sm,sn,hcap,hkid⟩:=h.parts
 obtain ⟨am,cm,rfl,_⟩:=sm
 obtain ⟨an,cn,rfl,_⟩:=sn
 have HK:Hid _:=hkid
 have HI:Hid _:=ih
 have HS:Hid (sz e = 1 + szL e.ks):=sz_eq e
 have HL:Hid (∀ k,szL (e.ks.take k) ≤ szL e.ks):=szL_take _
 have HT:Hid (szL (e.ks.take e.ks.length) = szL e.ks):=by show _ = _;rw [List.take_length]
 clear hkid ih h
 generalize hn:e.ks.length = n at *
 have HN:Hid (e.ks.length = n):=hn
 clear hn
 have q0:=zac w (.cells (exA e.k e.p e.o e.v e.s (.slice am e.m.length cm) e.r e.b1 e.b2 e.b3 e.b4 (.slice an e.ns.length cn) (.slice ao n cap)) 28)
 have B0:=bal (Below.refl w.heap.size w) (.cells (exA e.k e.p e.o e.v e.s (.slice am e.m.length cm) e.r e.b1 e.b2 e.b3 e.b4 (.slice an e.ns.length cn) (.slice ao n cap)) 28)
 have z0:=zaf w (.cells (exA e.k e.p e.o e.v e.s (.slice am e.m.length cm) e.r e.b1 e.b2 e.b3 e.b4 (.slice an e.ns.length cn) (.slice ao n cap)) 28)
 go_enter Tryz.func38,Tryz.ntmps38
 go_upto_region 3 with fail
 generalize w.alloc (.cells (exA e.k e.p e.o e.v e.s (.slice am e.m.length cm) e.r e.b1 e.b2 e.b3 e.b4 (.slice an e.ns.length cn) (.slice ao n cap)) 28) = w1 at *
 go_loopw [5,6] (fun a i wr=>∃ (k:Nat) (r:Int),k ≤ n ∧ a = .int .i64 r ∧ i = .int .i64 k ∧ Below w1.heap.size w1 wr ∧ 1 ≤ r ∧ (r ≤ 1 ∨ r ≤ most + 1) ∧ (r ≤ most → Hid (r = 1 + szL (e.ks.take k))) ∧ (most < r → Hid (most < 1 + szL (e.ks.take k)))) (fun _ i _=>n - (intOf i).toNat)
 case atStart=>exact ⟨0,1,by omega,rfl,rfl,Below.refl _ _,by omega,Or.inl (by omega),fun _=>by show (1:Int) = _;simp [szL],fun hq=>by show most < _;simp [szL];omega⟩
 case round=>
  obtain ⟨k,r,hk,rfl,rfl,B,r1,r2,HA,HB⟩:=hrel
  have q1:=zab B q0
  have c0:=(zaa q1 12).trans rfl
  by_cases hlt:k < n
  ·
   have hlt':(k:Int) < n:=by omega
   by_cases hrm:r ≤ most
   ·
    obtain ⟨x,hx⟩:∃ x,e.ks[k]? = some x:=⟨_,List.getElem?_eq_getElem (by have:=HN.out;omega)⟩
    obtain ⟨b,off,ci,ea,kd⟩:=HK.out k x hx
    have kd1:=kd.later (B0.trans (B.mono B0.size))
    subst ea
    have row:=kd1.t.row
    have hc:=HI.out x (List.mem_of_getElem? hx) (HM.out x (List.mem_of_getElem? hx)) wr ci (most - r) kd1.t (by omega) (by omega)
    have HX:Hid (szL (e.ks.take (k + 1)) = szL (e.ks.take k) + sz x):=szL_step _ _ _ hx
    have HR:Hid (r = 1 + szL (e.ks.take k)):=HA hrm
    clear HA HB hx kd HK HI
    go_wp2_with (refine zdf rfl _ rfl b (off + k * 13) ci rfl kd1.r row.1 ?_)
    refine hc.mono ?_
    rintro x' w2 ⟨r',rfl,C,b2⟩
    obtain ⟨d1,d2,d3,d4⟩:=C
    have B2:=B.trans (b2.mono B.size)
    go_wp2_with fail
    go_roundw
    case rel=>
     refine ⟨k + 1,r + r',by omega,by go_num,by go_num,B2,by omega,by omega,fun hq=>?_,fun hq=>?_⟩
     ·
      have e1:=d3 (by omega)
      have e2:=HX.out
      have e3:=HR.out
      show _ = _
      omega
     have e1:=d4 (by omega)
     have e2:=HX.out
     have e3:=HR.out
     show _ < _
     omega
    case measure=>simp [intOf];omega
   have HV:Hid (Cnt e most r):=⟨r1,r2,fun hq=>absurd hq hrm,fun _=>by have e1:=(HB (by omega)).out;have e2:=HL.out k;have e3:=HS.out;omega⟩
   clear HA HB HK HI
   go_wp2_with fail
   go_ret
   exact ⟨_,rfl,HV.out,B0.trans (B.mono B0.size)⟩
  have hlt':¬ (k:Int) < n:=by omega
  have ek:k = n:=by omega
  have HV:Hid (Cnt e most r):=by
   have e2:=HT.out
   have e3:=HS.out
   subst ek
   exact ⟨r1,r2,fun hq=>by have:=(HA hq).out;omega,fun hq=>by have:=(HB hq).out;omega⟩
  clear HA HB HK HI
  go_wp2_with fail
  go_ret
  exact ⟨_,rfl,HV.out,B0.trans (B.mono B0.size)⟩
def ownE (e:Ex):Ex:=
 if e.k = 1 then ⟨1,0,e.o,e.v,[],[],0,false,false,false,false,[],[]⟩
 else if e.k = 2 then ⟨2,0,false,0,[],e.m,e.r,false,false,false,false,[],[]⟩
 else if e.k = 3 then ⟨3,0,false,0,e.s,[],0,false,false,false,false,[],[]⟩
 else if e.k = 4 then ⟨4,0,false,0,e.s,[],0,e.b1,e.b2,false,false,e.ns,[]⟩
 else if e.k = 5 then ⟨5,0,false,0,e.s,[],0,false,false,e.b3,e.b4,e.ns,[]⟩
 else ⟨e.k,0,false,0,[],[],0,false,false,false,false,[],[]⟩
theorem alike_any {P P':Nat → Prop} {w:World} {a b:Ex} {ca cb:Array Value} (ha:TrP P w a ca) (hb:TrP P' w b cb) (hs:Sm a) :
  Calls Tryz.prog 43 #[.agg ca,.agg cb] w fun e w'=>e = .returned (.bool (alk a b)) ∧ Below w.heap.size w w':=by
 obtain ⟨_,_,_,h4,h5,_,_⟩:=(zpg a).1 hs
 obtain ⟨vm,vn,ao,cap,rfl,sm,sn,_,_⟩:=ha.parts
 obtain ⟨vm',vn',ao',cap',rfl,sm',sn',_,_⟩:=hb.parts
 obtain ⟨am,cm,rfl,hm⟩:=id sm
 obtain ⟨an,cn,rfl,hn⟩:=id sn
 obtain ⟨am',cm',rfl,hm'⟩:=id sm'
 obtain ⟨an',cn',rfl,hn'⟩:=id sn'
 exact alike_row _ _ _ _ _ _ _ _ _ _ _ _ _ _ _ _ _ a.m a.ns _ _ _ _ _ _ _ _ _ _ _ _ _ _ _ _ _ b.m b.ns sm sm' sn sn' h4 h5
theorem zhr (P:Nat → Prop) (w:World) (k p:Int) (o:Bool) (v:Int) (s:Str) (m:List Mt) (r:Int) (b1 b2 b3 b4:Bool) (ns:List Str) (vm vn:Value) (hm:SlP P w vm m.length (cellsM m)) (hn:SlP P w vn ns.length (ns.map tx)) :
  TrP P w ⟨k,p,o,v,s,m,r,b1,b2,b3,b4,ns,[]⟩ (exA k p o v s vm r b1 b2 b3 b4 vn nl):=
 (zfm _ _ _ _).mpr ⟨vm,vn,nl,[],rfl,hm,hn,Sl.nil _ _ _,rfl,fun i x hx=>by cases hx⟩
theorem ownA_tr {P:Nat → Prop} {w:World} (e:Ex) (vm vn:Value) (hm:SlP P w vm e.m.length (cellsM e.m)) (hn:SlP P w vn e.ns.length (e.ns.map tx)):TrP P w (ownE e) (ownA e.k e.o e.v e.s vm e.r e.b1 e.b2 e.b3 e.b4 vn):=by
 have hz:SlP P w nl ([]:List Mt).length (cellsM []):=Sl.nil _ _ _
 have hz':SlP P w nl ([]:List Str).length (([]:List Str).map tx):=Sl.nil _ _ _
 unfold ownE ownA
 by_cases h1:e.k = 1
 ·
  rw [if_pos h1,if_pos h1];exact zhr _ _ _ _ _ _ _ _ _ _ _ _ _ _ _ _ hz hz'
 rw [if_neg h1,if_neg h1]
 by_cases h2:e.k = 2
 ·
  rw [if_pos h2,if_pos h2];exact zhr _ _ _ _ _ _ _ _ _ _ _ _ _ _ _ _ hm hz'
 rw [if_neg h2,if_neg h2]
 by_cases h3:e.k = 3
 ·
  rw [if_pos h3,if_pos h3];exact zhr _ _ _ _ _ _ _ _ _ _ _ _ _ _ _ _ hz hz'
 rw [if_neg h3,if_neg h3]
 by_cases h4:e.k = 4
 ·
  rw [if_pos h4,if_pos h4];exact zhr _ _ _ _ _ _ _ _ _ _ _ _ _ _ _ _ hz hn
 rw [if_neg h4,if_neg h4]
 by_cases h5:e.k = 5
 ·
  rw [if_pos h5,if_pos h5];exact zhr _ _ _ _ _ _ _ _ _ _ _ _ _ _ _ _ hz hn
 rw [if_neg h5,if_neg h5];exact zhr _ _ _ _ _ _ _ _ _ _ _ _ _ _ _ _ hz hz'
def kindE (e:Ex):Bool:=fK e.k e.ks.length e.o e.v e.s e.m e.r e.b1 e.b2 e.b3 e.b4 e.ns
def sndG (e:Ex) (l:List Bool):Bool:=alk e (ownE e) && kindE e && l.all fun x=>x
def sndE (e:Ex):Bool:=foldE sndG e
theorem zkr (e:Ex):sndE e = (alk e (ownE e) && kindE e && e.ks.all sndE):=by
 have h:sndE e = (alk e (ownE e) && kindE e && (e.ks.map sndE).all fun x=>x):=by
  show foldE sndG e = _
  rw [zdo]
  rfl
 rw [h,List.all_map]
 rfl
def SndOK (P:Nat → Prop) (e:Ex):Prop:=Sm e → ∀ (w:World) (cs:Array Value),TrP P w e cs → Calls Tryz.prog 39 #[.agg cs] w fun x w'=>x = .returned (.bool (sndE e)) ∧ Below w.heap.size w w'
theorem holdE_any {P:Nat → Prop} {w:World} {ao:Option Addr} {cap:Nat} (ks:List Ex) (ih:∀ x ∈ ks,SndOK P x) (hs:∀ x,x ∈ ks → Sm x) (hn:ks.length ≤ 9223372036854775807)
  (hkid:∀ (i:Nat) (x:Ex),ks[i]? = some x → ∃ b off ci,ao = some ⟨b,off,none⟩ ∧ Kid P w b off i x ci) :
  Calls Tryz.prog 77 #[.slice ao ks.length cap,.func (.func 39) #[] #[]] w fun e w'=>e = .returned (.bool (ks.all sndE)) ∧ Below w.heap.size w w':=by
 have HK:Hid _:=hkid
 have HI:Hid _:=ih
 have HM:Hid _:=hs
 clear hkid ih hs
 generalize hnk:ks.length = n at *
 have HN:Hid (ks.length = n):=hnk
 clear hnk
 go_enter Tryz.func77,Tryz.ntmps77
 go_wp2_with fail
 go_loopw [9] (fun i wr=>∃ k:Nat,k ≤ n ∧ i = .int .i64 k ∧ Below w.heap.size w wr ∧ Hid ((ks.take k).all sndE = true)) (fun i _=>n - (intOf i).toNat)
 case atStart=>exact ⟨0,by omega,rfl,Below.refl _ _,rfl⟩
 case round=>
  obtain ⟨k,hk,rfl,B,HA⟩:=hrel
  by_cases hlt:k < n
  ·
   have hlt':(k:Int) < n:=by omega
   have HKl:Hid (k < ks.length):=by have:=HN.out;show _ < _;omega
   obtain ⟨x,hx⟩:∃ x,ks[k]? = some x:=⟨_,List.getElem?_eq_getElem HKl.out⟩
   have HX:Hid (ks.getD k x = x):=by show _ = _;simp [List.getD,hx]
   obtain ⟨b,off,ci,ea,kd⟩:=HK.out k x hx
   have kd1:=kd.later B
   have row:=kd1.t.row
   subst ea
   have HL:Hid ((ks.take (k + 1)).all sndE = ((ks.take k).all sndE && sndE x)):=by
    have h:=ziq sndE ks k x HKl.out
    rw [HX.out] at h
    exact h
   have HV:Hid (sndE x = false → ks.all sndE = false):=fun h=>all_no sndE ks k x HKl.out (by rw [HX.out];exact h)
   have his:=fun W hW=>HI.out x (List.mem_of_getElem? hx) (HM.out x (List.mem_of_getElem? hx)) W ci hW
   have Ba:=bal B (.cells zE 28)
   have q0:=zac wr (.cells zE 28)
   have T0:=TrP.later kd1.t (bal (Below.refl wr.heap.size wr) (.cells zE 28))
   have zP:=zaf wr (.cells zE 28)
   have hbw:=kd1.lt
   clear hx kd HX
   cases hq:sndE x with
   | true=>
    have HR:Hid ((ks.take (k + 1)).all sndE = true):=by show _ = _;rw [HL.out,HA.out,hq];rfl
    simp only [hq] at his
    clear HL HV HA hq
    go_wp2_with (first | (refine zdf rfl _ rfl b (off + k * 13) ci rfl kd1.r row.1 ?_) | (refine zad rfl 28 _ _ rfl wr.heap.size ci rfl rfl _ 28 q0 13 zae rfl row ?_;intro w2 q2 o2 z2) | (refine zaj rfl 28 _ rfl wr.heap.size ci 28 rfl (by assumption) _ Tryz.underlying28 rfl 13 zae row.1 ?_))
    have B2:=((Off.of Ba []).trans o2 (by simp;exact B.size)).below (by simp)
    refine (his _ (TrP.later kd1.t ((Off.of (bal (Below.refl wr.heap.size wr) (.cells zE 28)) []).trans o2 (by simp) |>.below (by simp)))).mono ?_
    rintro e w3 ⟨rfl,b3⟩
    have B3:=B2.trans (b3.mono B2.size)
    go_wp2_with fail
    go_roundw
    case rel=>exact ⟨k + 1,by omega,by go_num,B3,HR⟩
    case measure=>simp [intOf];omega
   | false=>
    have HR:Hid (ks.all sndE = false):=HV.out hq
    simp only [hq] at his
    clear HL HV HA hq
    go_wp2_with (first | (refine zdf rfl _ rfl b (off + k * 13) ci rfl kd1.r row.1 ?_) | (refine zad rfl 28 _ _ rfl wr.heap.size ci rfl rfl _ 28 q0 13 zae rfl row ?_;intro w2 q2 o2 z2) | (refine zaj rfl 28 _ rfl wr.heap.size ci 28 rfl (by assumption) _ Tryz.underlying28 rfl 13 zae row.1 ?_))
    have B2:=((Off.of Ba []).trans o2 (by simp;exact B.size)).below (by simp)
    refine (his _ (TrP.later kd1.t ((Off.of (bal (Below.refl wr.heap.size wr) (.cells zE 28)) []).trans o2 (by simp) |>.below (by simp)))).mono ?_
    rintro e w3 ⟨rfl,b3⟩
    have B3:=B2.trans (b3.mono B2.size)
    go_wp2_with fail
    go_ret
    exact ⟨by rw [HR.out];rfl,B3⟩
  have hlt':¬ (k:Int) < n:=by omega
  have HR:Hid (ks.all sndE = true):=by
   have h1:=HN.out
   have h2:=HA.out
   rw [List.take_of_length_le (by omega)] at h2
   exact h2
  clear HA HN HI HM HK
  go_wp2_with fail
  go_ret
  exact ⟨by rw [HR.out];rfl,B⟩
theorem snd_ok {P:Nat → Prop} (e:Ex):SndOK P e:=by
 refine Ex.ind (SndOK P) ?_ e
 intro e ih hs w cs h
 have hsz:=(zpg e).1 hs
 obtain ⟨s1,s2,s3,s4,s5,s6,s7⟩:=hsz
 obtain ⟨vm,vn,ao,cap,rfl,sm,sn,hcap,hkid⟩:=h.parts
 obtain ⟨am,cm,rfl,_⟩:=id sm
 obtain ⟨an,cn,rfl,_⟩:=id sn
 have hO:=fun W=>own_any e.k e.p e.o e.v e.s am an e.m.length cm e.ns.length cn e.r e.b1 e.b2 e.b3 e.b4 (.slice ao e.ks.length cap) W
 have hA:=fun W (hW:Below w.heap.size w W)=>alike_any (TrP.later h hW) (ownA_tr e _ _ (SlP.later sm hW) (SlP.later sn hW)) hs
 have hKd:=fun W (hW:Below w.heap.size w W)=>kind_row e.k e.p e.o e.v e.s am an ao e.m.length cm e.ns.length cn e.ks.length cap e.r e.b1 e.b2 e.b3 e.b4 e.m e.ns (SlP.later sm hW) (SlP.later sn hW) s1 (fun x hx=>(s2 x hx).1) s3 s4 s5 s6
 have hH:=fun W (hW:Below w.heap.size w W)=>holdE_any (cap:=cap) e.ks ih s7 s6 (fun i x hx=>by
  obtain ⟨b,off,ci,e1,kd⟩:=hkid i x hx
  exact ⟨b,off,ci,e1,kd.later hW⟩)
 have HE:Hid (sndE e = (alk e (ownE e) && kindE e && e.ks.all sndE)):=zkr e
 have eK:fK e.k e.ks.length e.o e.v e.s e.m e.r e.b1 e.b2 e.b3 e.b4 e.ns = kindE e:=rfl
 rw [HE.out]
 simp only [eK] at hKd
 clear s1 s2 s3 s4 s5 s6 s7 sm sn hkid ih h hs HE eK
 generalize ownA e.k e.o e.v e.s (.slice am e.m.length cm) e.r e.b1 e.b2 e.b3 e.b4 (.slice an e.ns.length cn) = oa at *
 have qa:=zac w (.cells (exA e.k e.p e.o e.v e.s (.slice am e.m.length cm) e.r e.b1 e.b2 e.b3 e.b4 (.slice an e.ns.length cn) (.slice ao e.ks.length cap)) 28)
 have B1:=bal (Below.refl w.heap.size w) (.cells (exA e.k e.p e.o e.v e.s (.slice am e.m.length cm) e.r e.b1 e.b2 e.b3 e.b4 (.slice an e.ns.length cn) (.slice ao e.ks.length cap)) 28)
 go_enter Tryz.func39,Tryz.ntmps39
 go_upto_region 1 with fail
 generalize w.alloc (.cells (exA e.k e.p e.o e.v e.s (.slice am e.m.length cm) e.r e.b1 e.b2 e.b3 e.b4 (.slice an e.ns.length cn) (.slice ao e.ks.length cap)) 28) = w1 at *
 cases ha:alk e (ownE e) with
 | false=>
  simp only [ha] at hA
  refine wp_region_noPanic ?_
  refine wp_region_held_drew (S:=fun W=>Below w1.heap.size w1 W) (by kernel_rfl) ?_ (fun _=>?_)
  ·
   exact zag w1
  have C0:=zag w1
  generalize w1.drew = w2 at *
  refine tk 0 3 (.agg (exA e.k e.p e.o e.v e.s (.slice am e.m.length cm) e.r e.b1 e.b2 e.b3 e.b4 (.slice an e.ns.length cn) (.slice ao e.ks.length cap))) rfl (fun W hSw=>by exact zar 28 _ rfl w.heap.size (exA e.k e.p e.o e.v e.s (.slice am e.m.length cm) e.r e.b1 e.b2 e.b3 e.b4 (.slice an e.ns.length cn) (.slice ao e.ks.length cap)) 28 rfl W (zab hSw qa) _ Tryz.underlying28 rfl 13 zae rfl) C0 ?_
  simp only [Act.put,pB,pC,pD]
  refine tk 1 4 (.agg (exA e.k e.p e.o e.v e.s (.slice am e.m.length cm) e.r e.b1 e.b2 e.b3 e.b4 (.slice an e.ns.length cn) (.slice ao e.ks.length cap))) rfl (fun W hSw=>by exact zar 28 _ rfl w.heap.size (exA e.k e.p e.o e.v e.s (.slice am e.m.length cm) e.r e.b1 e.b2 e.b3 e.b4 (.slice an e.ns.length cn) (.slice ao e.ks.length cap)) 28 rfl W (zab hSw qa) _ Tryz.underlying28 rfl 13 zae rfl) C0 ?_
  simp only [Act.put,pB,pC,pD]
  refine wpAnyH_ready (rs:=[2]) (by kernel_rfl) (by simp) ?_
  refine aR rfl fun K hK=>?_
  go_simp
  refine (hO _).mono ?_
  rintro x w3 ⟨rfl,b3⟩
  have C1:Below w1.heap.size w1 _:=C0.trans (b3.mono C0.size)
  refine hK.out _ _ ?_ (fun _=>?_)
  ·
   exact C1
  clear hK K
  refine wpAnyH_ready (rs:=[3]) (by kernel_rfl) (by simp) ?_
  refine aR rfl fun K hK=>?_
  go_simp
  refine (hA _ (B1.trans (C1.mono B1.size))).mono ?_
  rintro x w4 ⟨rfl,b4⟩
  have C2:Below w1.heap.size w1 _:=C1.trans (b4.mono C1.size)
  refine hK.out _ _ ?_ (fun _=>?_)
  ·
   exact C2
  clear hK K
  refine tk 4 7 (.bool false) rfl (fun W hSw=>by go_simp) C2 ?_
  simp only [Act.put,pB,pC,pD]
  refine zaw 5 (some 8) rfl rfl (by kernel_rfl) (by kernel_rfl) (by kernel_rfl) (fun _ _ _ h=>h) (by rfl) C2 ?_
  simp only [Act.put,pB,pC,pD]
  refine zaw 6 (some 9) rfl rfl (by kernel_rfl) (by kernel_rfl) (by kernel_rfl) (fun _ _ _ h=>h) (by rfl) C2 ?_
  simp only [Act.put,pB,pC,pD]
  refine tk 7 10 (.bool false) rfl (fun W hSw=>by go_simp) C2 ?_
  simp only [Act.put,pB,pC,pD]
  refine tk 8 11 (.bool false) rfl (fun W hSw=>by go_simp) C2 ?_
  simp only [Act.put,pB,pC,pD]
  refine zaw 9 (some 12) rfl rfl (by kernel_rfl) (by kernel_rfl) (by kernel_rfl) (fun _ _ _ h=>h) (by rfl) C2 ?_
  simp only [Act.put,pB,pC,pD]
  refine zaw 10 (some 13) rfl rfl (by kernel_rfl) (by kernel_rfl) (by kernel_rfl) (fun _ _ _ h=>h) (by rfl) C2 ?_
  simp only [Act.put,pB,pC,pD]
  refine zaw 11 (some 14) rfl rfl (by kernel_rfl) (by kernel_rfl) (by kernel_rfl) (fun _ _ _ h=>h) (by rfl) C2 ?_
  simp only [Act.put,pB,pC,pD]
  refine tk 12 15 (.bool false) rfl (fun W hSw=>by go_simp) C2 ?_
  simp only [Act.put,pB,pC,pD]
  refine wpAnyH_ready (rs:=[13]) (by kernel_rfl) (by simp) ?_
  refine aR rfl fun K hK=>?_
  go_simp
  refine hK.out _ _ ?_ (fun _=>?_)
  ·
   exact C2
  clear hK K
  refine wpAnyH_done (by kernel_rfl) ?_ _
  refine NoPanic.normal ?_
  go_wp2_with fail
  go_ret
  exact ⟨by simp [ha],B1.trans (C2.mono B1.size)⟩
 | true=>
  cases hk:kindE e with
  | false=>
   simp only [ha] at hA
   simp only [hk] at hKd
   refine wp_region_noPanic ?_
   refine wp_region_held_drew (S:=fun W=>Below w1.heap.size w1 W) (by kernel_rfl) ?_ (fun _=>?_)
   ·
    exact zag w1
   have C0:=zag w1
   generalize w1.drew = w2 at *
   refine tk 0 3 (.agg (exA e.k e.p e.o e.v e.s (.slice am e.m.length cm) e.r e.b1 e.b2 e.b3 e.b4 (.slice an e.ns.length cn) (.slice ao e.ks.length cap))) rfl (fun W hSw=>by exact zar 28 _ rfl w.heap.size (exA e.k e.p e.o e.v e.s (.slice am e.m.length cm) e.r e.b1 e.b2 e.b3 e.b4 (.slice an e.ns.length cn) (.slice ao e.ks.length cap)) 28 rfl W (zab hSw qa) _ Tryz.underlying28 rfl 13 zae rfl) C0 ?_
   simp only [Act.put,pB,pC,pD]
   refine tk 1 4 (.agg (exA e.k e.p e.o e.v e.s (.slice am e.m.length cm) e.r e.b1 e.b2 e.b3 e.b4 (.slice an e.ns.length cn) (.slice ao e.ks.length cap))) rfl (fun W hSw=>by exact zar 28 _ rfl w.heap.size (exA e.k e.p e.o e.v e.s (.slice am e.m.length cm) e.r e.b1 e.b2 e.b3 e.b4 (.slice an e.ns.length cn) (.slice ao e.ks.length cap)) 28 rfl W (zab hSw qa) _ Tryz.underlying28 rfl 13 zae rfl) C0 ?_
   simp only [Act.put,pB,pC,pD]
   refine wpAnyH_ready (rs:=[2]) (by kernel_rfl) (by simp) ?_
   refine aR rfl fun K hK=>?_
   go_simp
   refine (hO _).mono ?_
   rintro x w3 ⟨rfl,b3⟩
   have C1:Below w1.heap.size w1 _:=C0.trans (b3.mono C0.size)
   refine hK.out _ _ ?_ (fun _=>?_)
   ·
    exact C1
   clear hK K
   refine wpAnyH_ready (rs:=[3]) (by kernel_rfl) (by simp) ?_
   refine aR rfl fun K hK=>?_
   go_simp
   refine (hA _ (B1.trans (C1.mono B1.size))).mono ?_
   rintro x w4 ⟨rfl,b4⟩
   have C2:Below w1.heap.size w1 _:=C1.trans (b4.mono C1.size)
   refine hK.out _ _ ?_ (fun _=>?_)
   ·
    exact C2
   clear hK K
   refine tk 4 7 (.bool true) rfl (fun W hSw=>by go_simp) C2 ?_
   simp only [Act.put,pB,pC,pD]
   refine tk 5 8 (.agg (exA e.k e.p e.o e.v e.s (.slice am e.m.length cm) e.r e.b1 e.b2 e.b3 e.b4 (.slice an e.ns.length cn) (.slice ao e.ks.length cap))) rfl (fun W hSw=>by exact zar 28 _ rfl w.heap.size (exA e.k e.p e.o e.v e.s (.slice am e.m.length cm) e.r e.b1 e.b2 e.b3 e.b4 (.slice an e.ns.length cn) (.slice ao e.ks.length cap)) 28 rfl W (zab hSw qa) _ Tryz.underlying28 rfl 13 zae rfl) C2 ?_
   simp only [Act.put,pB,pC,pD]
   refine wpAnyH_ready (rs:=[6]) (by kernel_rfl) (by simp) ?_
   refine aR rfl fun K hK=>?_
   go_simp
   refine (hKd _ (B1.trans (C2.mono B1.size))).mono ?_
   rintro x w5 ⟨rfl,b5⟩
   have C3:Below w1.heap.size w1 _:=C2.trans (b5.mono C2.size)
   refine hK.out _ _ ?_ (fun _=>?_)
   ·
    exact C3
   clear hK K
   refine tk 7 10 (.bool false) rfl (fun W hSw=>by go_simp) C3 ?_
   simp only [Act.put,pB,pC,pD]
   refine tk 8 11 (.bool false) rfl (fun W hSw=>by go_simp) C3 ?_
   simp only [Act.put,pB,pC,pD]
   refine zaw 9 (some 12) rfl rfl (by kernel_rfl) (by kernel_rfl) (by kernel_rfl) (fun _ _ _ h=>h) (by rfl) C3 ?_
   simp only [Act.put,pB,pC,pD]
   refine zaw 10 (some 13) rfl rfl (by kernel_rfl) (by kernel_rfl) (by kernel_rfl) (fun _ _ _ h=>h) (by rfl) C3 ?_
   simp only [Act.put,pB,pC,pD]
   refine zaw 11 (some 14) rfl rfl (by kernel_rfl) (by kernel_rfl) (by kernel_rfl) (fun _ _ _ h=>h) (by rfl) C3 ?_
   simp only [Act.put,pB,pC,pD]
   refine tk 12 15 (.bool false) rfl (fun W hSw=>by go_simp) C3 ?_
   simp only [Act.put,pB,pC,pD]
   refine wpAnyH_ready (rs:=[13]) (by kernel_rfl) (by simp) ?_
   refine aR rfl fun K hK=>?_
   go_simp
   refine hK.out _ _ ?_ (fun _=>?_)
   ·
    exact C3
   clear hK K
   refine wpAnyH_done (by kernel_rfl) ?_ _
   refine NoPanic.normal ?_
   go_wp2_with fail
   go_ret
   exact ⟨by simp [ha,hk],B1.trans (C3.mono B1.size)⟩
  | true=>
   simp only [ha] at hA
   simp only [hk] at hKd
   refine wp_region_noPanic ?_
   refine wp_region_held_drew (S:=fun W=>Below w1.heap.size w1 W) (by kernel_rfl) ?_ (fun _=>?_)
   ·
    exact zag w1
   have C0:=zag w1
   generalize w1.drew = w2 at *
   refine tk 0 3 (.agg (exA e.k e.p e.o e.v e.s (.slice am e.m.length cm) e.r e.b1 e.b2 e.b3 e.b4 (.slice an e.ns.length cn) (.slice ao e.ks.length cap))) rfl (fun W hSw=>by exact zar 28 _ rfl w.heap.size (exA e.k e.p e.o e.v e.s (.slice am e.m.length cm) e.r e.b1 e.b2 e.b3 e.b4 (.slice an e.ns.length cn) (.slice ao e.ks.length cap)) 28 rfl W (zab hSw qa) _ Tryz.underlying28 rfl 13 zae rfl) C0 ?_
   simp only [Act.put,pB,pC,pD]
   refine tk 1 4 (.agg (exA e.k e.p e.o e.v e.s (.slice am e.m.length cm) e.r e.b1 e.b2 e.b3 e.b4 (.slice an e.ns.length cn) (.slice ao e.ks.length cap))) rfl (fun W hSw=>by exact zar 28 _ rfl w.heap.size (exA e.k e.p e.o e.v e.s (.slice am e.m.length cm) e.r e.b1 e.b2 e.b3 e.b4 (.slice an e.ns.length cn) (.slice ao e.ks.length cap)) 28 rfl W (zab hSw qa) _ Tryz.underlying28 rfl 13 zae rfl) C0 ?_
   simp only [Act.put,pB,pC,pD]
   refine wpAnyH_ready (rs:=[2]) (by kernel_rfl) (by simp) ?_
   refine aR rfl fun K hK=>?_
   go_simp
   refine (hO _).mono ?_
   rintro x w3 ⟨rfl,b3⟩
   have C1:Below w1.heap.size w1 _:=C0.trans (b3.mono C0.size)
   refine hK.out _ _ ?_ (fun _=>?_)
   ·
    exact C1
   clear hK K
   refine wpAnyH_ready (rs:=[3]) (by kernel_rfl) (by simp) ?_
   refine aR rfl fun K hK=>?_
   go_simp
   refine (hA _ (B1.trans (C1.mono B1.size))).mono ?_
   rintro x w4 ⟨rfl,b4⟩
   have C2:Below w1.heap.size w1 _:=C1.trans (b4.mono C1.size)
   refine hK.out _ _ ?_ (fun _=>?_)
   ·
    exact C2
   clear hK K
   refine tk 4 7 (.bool true) rfl (fun W hSw=>by go_simp) C2 ?_
   simp only [Act.put,pB,pC,pD]
   refine tk 5 8 (.agg (exA e.k e.p e.o e.v e.s (.slice am e.m.length cm) e.r e.b1 e.b2 e.b3 e.b4 (.slice an e.ns.length cn) (.slice ao e.ks.length cap))) rfl (fun W hSw=>by exact zar 28 _ rfl w.heap.size (exA e.k e.p e.o e.v e.s (.slice am e.m.length cm) e.r e.b1 e.b2 e.b3 e.b4 (.slice an e.ns.length cn) (.slice ao e.ks.length cap)) 28 rfl W (zab hSw qa) _ Tryz.underlying28 rfl 13 zae rfl) C2 ?_
   simp only [Act.put,pB,pC,pD]
   refine wpAnyH_ready (rs:=[6]) (by kernel_rfl) (by simp) ?_
   refine aR rfl fun K hK=>?_
   go_simp
   refine (hKd _ (B1.trans (C2.mono B1.size))).mono ?_
   rintro x w5 ⟨rfl,b5⟩
   have C3:Below w1.heap.size w1 _:=C2.trans (b5.mono C2.size)
   refine hK.out _ _ ?_ (fun _=>?_)
   ·
    exact C3
   clear hK K
   refine tk 7 10 (.bool true) rfl (fun W hSw=>by go_simp) C3 ?_
   simp only [Act.put,pB,pC,pD]
   refine tk 8 11 (.bool true) rfl (fun W hSw=>by go_simp) C3 ?_
   simp only [Act.put,pB,pC,pD]
   refine tk 9 12 (.pointer (some ⟨w.heap.size,12,none⟩)) rfl (fun W hSw=>by go_simp) C3 ?_
   simp only [Act.put,pB,pC,pD]
   refine tk 10 13 (.slice ao e.ks.length cap) rfl (fun W hSw=>by (have hk:=(zaa (zab hSw qa) 12).trans rfl;go_simp)) C3 ?_
   simp only [Act.put,pB,pC,pD]
   refine wpAnyH_ready (rs:=[11]) (by kernel_rfl) (by simp) ?_
   refine aR rfl fun K hK=>?_
   go_simp
   refine (hH _ (B1.trans (C3.mono B1.size))).mono ?_
   rintro x w6 ⟨rfl,b6⟩
   have C4:Below w1.heap.size w1 _:=C3.trans (b6.mono C3.size)
   refine hK.out _ _ ?_ (fun _=>?_)
   ·
    exact C4
   clear hK K
   refine tk 12 15 (.bool (e.ks.all sndE)) rfl (fun W hSw=>by go_simp) C4 ?_
   simp only [Act.put,pB,pC,pD]
   refine wpAnyH_ready (rs:=[13]) (by kernel_rfl) (by simp) ?_
   refine aR rfl fun K hK=>?_
   go_simp
   refine hK.out _ _ ?_ (fun _=>?_)
   ·
    exact C4
   clear hK K
   refine wpAnyH_done (by kernel_rfl) ?_ _
   refine NoPanic.normal ?_
   go_wp2_with fail
   go_ret
   exact ⟨by simp [ha,hk],B1.trans (C4.mono B1.size)⟩
def isE (e:Ex):Bool:=decide (sz e ≤ 700) && sndE e
theorem isE_any {P:Nat → Prop} {w:World} {e:Ex} {cs:Array Value} (h:TrP P w e cs) (hs:Sm e):Calls Tryz.prog 14 #[.agg cs] w fun x w'=>x = .returned (.bool (isE e)) ∧ Below w.heap.size w w':=by
 have hC:=fun W (hW:Below w.heap.size w W)=>count_ok (P:=P) e hs W cs 700 (TrP.later h hW) (by omega) (by omega)
 have hS:=fun W (hW:Below w.heap.size w W)=>snd_ok (P:=P) e hs W cs (TrP.later h hW)
 have row:=h.row
 have hn:=row.1
 obtain ⟨vm,vn,ao,cap,rfl,sm,sn,_,_⟩:=h.parts
 obtain ⟨am,cm,rfl,_⟩:=sm
 obtain ⟨an,cn,rfl,_⟩:=sn
 clear h hs
 have qa:=zac w (.cells (exA e.k e.p e.o e.v e.s (.slice am e.m.length cm) e.r e.b1 e.b2 e.b3 e.b4 (.slice an e.ns.length cn) (.slice ao e.ks.length cap)) 28)
 have B1:=bal (Below.refl w.heap.size w) (.cells (exA e.k e.p e.o e.v e.s (.slice am e.m.length cm) e.r e.b1 e.b2 e.b3 e.b4 (.slice an e.ns.length cn) (.slice ao e.ks.length cap)) 28)
 go_enter Tryz.func14,Tryz.ntmps14
 go_upto_region 1 with fail
 generalize w.alloc (.cells (exA e.k e.p e.o e.v e.s (.slice am e.m.length cm) e.r e.b1 e.b2 e.b3 e.b4 (.slice an e.ns.length cn) (.slice ao e.ks.length cap)) 28) = w1 at *
 go_wp2_with (refine zaj rfl 28 _ rfl w.heap.size (exA e.k e.p e.o e.v e.s (.slice am e.m.length cm) e.r e.b1 e.b2 e.b3 e.b4 (.slice an e.ns.length cn) (.slice ao e.ks.length cap)) 28 rfl qa _ Tryz.underlying28 rfl 13 zae rfl ?_)
 refine (hC _ B1).mono ?_
 rintro x w2 ⟨r,rfl,C,b2⟩
 have B2:=B1.trans (b2.mono B1.size)
 have qb:=zab b2 qa
 obtain ⟨d1,d2,d3,d4⟩:=C
 by_cases hr:r ≤ 700
 ·
  have HV:Hid (isE e = sndE e):=by
   show _ = _
   unfold isE
   rw [decide_eq_true (by have:=d3 hr;omega)]
   rfl
  clear d1 d2 d3 d4
  have x0:=(zaa qb 0).trans rfl
  have x1:=(zaa qb 1).trans rfl
  have x2:=(zaa qb 2).trans rfl
  have x3:=(zaa qb 3).trans rfl
  have x4:=(zaa qb 4).trans rfl
  have x5:=(zaa qb 5).trans rfl
  have x6:=(zaa qb 6).trans rfl
  have x7:=(zaa qb 7).trans rfl
  have x8:=(zaa qb 8).trans rfl
  have x9:=(zaa qb 9).trans rfl
  have x10:=(zaa qb 10).trans rfl
  have x11:=(zaa qb 11).trans rfl
  have x12:=(zaa qb 12).trans rfl
  go_wp2_with fail
  refine (hS _ B2).mono ?_
  rintro x w3 ⟨rfl,b3⟩
  have B3:=B2.trans (b3.mono B2.size)
  go_wp2_with fail
  go_ret
  exact ⟨by simp [HV.out],B3⟩
 have HV:Hid (isE e = false):=by
  show _ = _
  unfold isE
  rw [decide_eq_false (by have:=d4 (by omega);omega)]
  rfl
 clear d1 d2 d3 d4
 go_wp2_with fail
 go_ret
 exact ⟨by simp [HV.out],B2⟩
end Go.Proofs.YtjlaihekocjggaaGreatDoor
