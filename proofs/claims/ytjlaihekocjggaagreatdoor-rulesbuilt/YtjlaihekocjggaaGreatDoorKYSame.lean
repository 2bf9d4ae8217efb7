/- Whether two trees are the same. -/
import Derived.Test.YtjlaihekocjggaaGreatDoorKRPz
set_option maxHeartbeats 16000000
namespace Go.Proofs.YtjlaihekocjggaaGreatDoor
open Go.RowKit
def smF:List (Ex → Bool) → List Ex → Bool
 | [],[]=>true
 | f :: l,y :: m=>f y && smF l m
 | [],_ :: _=>false
 | _ :: _,[]=>false
def smG (a:Ex) (fs:List (Ex → Bool)) (b:Ex):Bool:=alk a b && smF fs b.ks
def smE (a:Ex):Ex → Bool:=foldE smG a
def smL:List Ex → List Ex → Bool
 | [],[]=>true
 | x :: l,y :: m=>smE x y && smL l m
 | [],_ :: _=>false
 | _ :: _,[]=>false
theorem smF_map:∀ l m,smF (l.map smE) m = smL l m
 | [],[]=>rfl
 | x :: l,y :: m=>by rw [List.map_cons,smF,smL,smF_map l m]
 | [],_ :: _=>rfl
 | _ :: _,[]=>rfl
theorem smE_eq (a b:Ex):smE a b = (alk a b && smL a.ks b.ks):=by
 have h:smE a = smG a (a.ks.map smE):=by
  show foldE smG a = _
  rw [zdo]
  rfl
 rw [h,← smF_map]
 rfl
theorem smE_mk (k p:Int) (o:Bool) (v:Int) (s:Str) (m:List Mt) (r:Int) (b1 b2 b3 b4:Bool) (ns:List Str) (ks:List Ex) (b:Ex):smE ⟨k,p,o,v,s,m,r,b1,b2,b3,b4,ns,ks⟩ b = (alk ⟨k,p,o,v,s,m,r,b1,b2,b3,b4,ns,ks⟩ b && smL ks b.ks):=smE_eq _ b
theorem smL_len:∀ (l m:List Ex),l.length ≠ m.length → smL l m = false
 | [],[],h=>absurd rfl h
 | [],_ :: _,_=>by rw [smL]
 | _ :: _,[],_=>by rw [smL]
 | x :: l,y :: m,h=>by rw [smL,smL_len l m (by simpa using h),Bool.and_false]
theorem smL_no:∀ (l m:List Ex) (k:Nat) (x y:Ex),l[k]? = some x → m[k]? = some y → smE x y = false → smL l m = false
 | [],_,_,_,_,h,_,_=>by simp at h
 | _ :: _,[],_,_,_,_,h,_=>by simp at h
 | a :: l,b :: m,0,x,y,h,h',hq=>by
  simp at h h'
  subst h h'
  rw [smL,hq,Bool.false_and]
 | a :: l,b :: m,k + 1,x,y,h,h',hq=>by
  rw [smL,smL_no l m k x y (by simpa using h) (by simpa using h') hq,Bool.and_false]
theorem smL_yes:∀ (l m:List Ex),l.length = m.length → (∀ (k:Nat) (x y:Ex),l[k]? = some x → m[k]? = some y → smE x y = true) → smL l m = true
 | [],[],_,_=>by rw [smL]
 | [],_ :: _,h,_=>by simp at h
 | _ :: _,[],h,_=>by simp at h
 | x :: l,y :: m,h,hq=>by
  rw [smL,hq 0 x y rfl rfl,smL_yes l m (by simpa using h) (fun k a b ha hb=>hq (k + 1) a b (by simpa using ha) (by simpa using hb))]
  rfl
def SameOK (P P':Nat → Prop) (a:Ex):Prop:=∀ (b:Ex),Sm a → ∀ (w:World) (ca cb:Array Value),TrP P w a ca → TrP P' w b cb → Calls Tryz.prog 18 #[.agg ca,.agg cb] w fun x w'=>x = .returned (.bool (smE a b)) ∧ Below w.heap.size w w'
theorem eqF_any {P P':Nat → Prop} {w:World} {ao ao':Option Addr} {cap cap':Nat} (ks ks':List Ex) (ih:∀ x ∈ ks,SameOK P P' x) (hs:∀ x,x ∈ ks → Sm x) (hn:ks.length ≤ 9223372036854775807)
  (hkid:∀ (i:Nat) (x:Ex),ks[i]? = some x → ∃ b off ci,ao = some ⟨b,off,none⟩ ∧ Kid P w b off i x ci)
  (hkid':∀ (i:Nat) (x:Ex),ks'[i]? = some x → ∃ b off ci,ao' = some ⟨b,off,none⟩ ∧ Kid P' w b off i x ci) :
  Calls Tryz.prog 44 #[.slice ao ks.length cap,.slice ao' ks'.length cap',.func (.func 18) #[] #[]] w fun e w'=>e = .returned (.bool (smL ks ks')) ∧ Below w.heap.size w w':=by
 have HK:Hid _:=hkid
 have HK':Hid _:=hkid'
 have HI:Hid _:=ih
 have HM:Hid _:=hs
 clear hkid hkid' ih hs
 by_cases hne:ks.length = ks'.length
 ·
  rw [← hne]
  generalize hnk:ks.length = n at *
  have HN:Hid (ks.length = n):=hnk
  have HN':Hid (ks'.length = n):=hne.symm
  clear hnk hne
  have t0:((n:Int) != n) = false:=by rw [bne_eq_false_iff_eq]
  go_enter Tryz.func44,Tryz.ntmps44
  go_wp2_with fail
  go_loopw [17] (fun i wr=>∃ k:Nat,k ≤ n ∧ i = .int .i64 k ∧ Below w.heap.size w wr ∧ Hid (∀ (j:Nat) (x y:Ex),j < k → ks[j]? = some x → ks'[j]? = some y → smE x y = true)) (fun i _=>n - (intOf i).toNat)
  case atStart=>exact ⟨0,by omega,rfl,Below.refl _ _,fun j x y hj=>by omega⟩
  case round=>
   obtain ⟨k,hk,rfl,B,HA⟩:=hrel
   by_cases hlt:k < n
   ·
    have hlt':(k:Int) < n:=by omega
    obtain ⟨x,hx⟩:∃ x,ks[k]? = some x:=⟨_,List.getElem?_eq_getElem (by have:=HN.out;omega)⟩
    obtain ⟨y,hy⟩:∃ y,ks'[k]? = some y:=⟨_,List.getElem?_eq_getElem (by have:=HN'.out;omega)⟩
    obtain ⟨b,off,ci,ea,kd⟩:=HK.out k x hx
    obtain ⟨b',off',cj,ea',kd'⟩:=HK'.out k y hy
    have kd1:=kd.later B
    have kd1':=kd'.later B
    have row:=kd1.t.row
    have row':=kd1'.t.row
    subst ea ea'
    have his:=fun W hW hW'=>HI.out x (List.mem_of_getElem? hx) y (HM.out x (List.mem_of_getElem? hx)) W ci cj hW hW'
    have HNo:Hid (smE x y = false → smL ks ks' = false):=smL_no ks ks' k x y hx hy
    have HYes:Hid (smE x y = true → ∀ (j:Nat) (x y:Ex),j < k + 1 → ks[j]? = some x → ks'[j]? = some y → smE x y = true):=fun hq j x2 y2 hj h1 h2=>by
     by_cases e:j = k
     ·
      subst e
      rw [hx] at h1
      rw [hy] at h2
      cases h1
      cases h2
      exact hq
     exact HA.out j x2 y2 (by omega) h1 h2
    have Ba:=bal (Below.refl wr.heap.size wr) (.cells zE 28)
    have q0:=zac wr (.cells zE 28)
    have zP:=zaf wr (.cells zE 28)
    clear hx hy kd kd' HA HK HK' HI
    cases hq:smE x y with
    | true=>
     have HR:Hid _:=HYes.out hq
     simp only [hq] at his
     clear HNo HYes hq
     go_wp2_with (first | (refine zdf rfl _ rfl b (off + k * 13) ci rfl kd1.r row.1 ?_) | (refine zad rfl 28 _ _ rfl wr.heap.size ci rfl rfl _ 28 q0 13 zae rfl row ?_;intro w2 q2 o2 z2;clear z2;have zq:=zah q2;have D2:=((Off.of Ba []).trans o2 (by simp)).below (by simp);have kd2:=kd1'.later D2;have q3:=zac w2 (.cells zE 28);have D3:=bal D2 (.cells zE 28);have q2':=zab (bal (Below.refl w2.heap.size w2) (.cells zE 28)) q2;have zz:=zaf w2 (.cells zE 28)) | (refine zdf rfl _ rfl b' (off' + k * 13) cj rfl kd2.r row'.1 ?_) | (refine zad rfl 28 _ _ rfl w2.heap.size cj rfl rfl _ 28 q3 13 zae rfl row' ?_;intro w4 q4 o4 z4;clear z4;have q2'':=o4.heap q2' (by simp <;> omega)) | (refine zaj rfl 28 _ rfl wr.heap.size ci 28 rfl q2'' _ Tryz.underlying28 rfl 13 zae row.1 ?_) | (refine zaj rfl 28 _ rfl w2.heap.size cj 28 rfl q4 _ Tryz.underlying28 rfl 13 zae row'.1 ?_))
     have zd:=D2.size
     have D4:=((Off.of D3 []).trans o4 (by simp <;> omega)).below (by simp)
     refine (his _ (TrP.later kd1.t D4) (TrP.later kd1'.t D4)).mono ?_
     rintro e w5 ⟨rfl,b5⟩
     have D5:=D4.trans (b5.mono D4.size)
     have B5:=B.trans (D5.mono B.size)
     go_wp2_with fail
     go_roundw
     case rel=>exact ⟨k + 1,by omega,by go_num,B5,HR⟩
     case measure=>simp [intOf];omega
    | false=>
     have HR:Hid (smL ks ks' = false):=HNo.out hq
     simp only [hq] at his
     clear HNo HYes hq
     go_wp2_with (first | (refine zdf rfl _ rfl b (off + k * 13) ci rfl kd1.r row.1 ?_) | (refine zad rfl 28 _ _ rfl wr.heap.size ci rfl rfl _ 28 q0 13 zae rfl row ?_;intro w2 q2 o2 z2;clear z2;have zq:=zah q2;have D2:=((Off.of Ba []).trans o2 (by simp)).below (by simp);have kd2:=kd1'.later D2;have q3:=zac w2 (.cells zE 28);have D3:=bal D2 (.cells zE 28);have q2':=zab (bal (Below.refl w2.heap.size w2) (.cells zE 28)) q2;have zz:=zaf w2 (.cells zE 28)) | (refine zdf rfl _ rfl b' (off' + k * 13) cj rfl kd2.r row'.1 ?_) | (refine zad rfl 28 _ _ rfl w2.heap.size cj rfl rfl _ 28 q3 13 zae rfl row' ?_;intro w4 q4 o4 z4;clear z4;have q2'':=o4.heap q2' (by simp <;> omega)) | (refine zaj rfl 28 _ rfl wr.heap.size ci 28 rfl q2'' _ Tryz.underlying28 rfl 13 zae row.1 ?_) | (refine zaj rfl 28 _ rfl w2.heap.size cj 28 rfl q4 _ Tryz.underlying28 rfl 13 zae row'.1 ?_))
     have zd:=D2.size
     have D4:=((Off.of D3 []).trans o4 (by simp <;> omega)).below (by simp)
     refine (his _ (TrP.later kd1.t D4) (TrP.later kd1'.t D4)).mono ?_
     rintro e w5 ⟨rfl,b5⟩
     have D5:=D4.trans (b5.mono D4.size)
     have B5:=B.trans (D5.mono B.size)
     go_wp2_with fail
     go_ret
     exact ⟨by rw [HR.out];rfl,B5⟩
   have hlt':¬ (k:Int) < n:=by omega
   have HR:Hid (smL ks ks' = true):=smL_yes ks ks' (by rw [HN.out,HN'.out]) (fun j x y h1 h2=>HA.out j x y (by have:=(List.getElem?_eq_some_iff.1 h1).1;have:=HN.out;omega) h1 h2)
   clear HA HK HK' HI HM
   go_wp2_with fail
   go_ret
   exact ⟨by rw [HR.out];rfl,B⟩
 have HR:Hid (smL ks ks' = false):=smL_len _ _ hne
 have t0:((ks.length:Int) != ks'.length) = true:=by rw [bne_iff_ne];omega
 clear HK HK' HI HM hne
 go_enter Tryz.func44,Tryz.ntmps44
 go_wp2_with fail
 go_ret
 exact ⟨by rw [HR.out];rfl,Below.refl _ _⟩
theorem same_ok {P P':Nat → Prop} (a:Ex):SameOK P P' a:=by
 refine Ex.ind (SameOK P P') ?_ a
 intro a ih b hs w ca cb ha hb
 obtain ⟨_,_,_,_,_,s6,s7⟩:=(zpg a).1 hs
 obtain ⟨vm,vn,ao,cap,rfl,sm,sn,_,hkid⟩:=ha.parts
 obtain ⟨vm',vn',ao',cap',rfl,sm',sn',_,hkid'⟩:=hb.parts
 obtain ⟨am,cm,rfl,_⟩:=sm
 obtain ⟨an,cn,rfl,_⟩:=sn
 obtain ⟨am',cm',rfl,_⟩:=sm'
 obtain ⟨an',cn',rfl,_⟩:=sn'
 have hA:=fun W (hW:Below w.heap.size w W)=>alike_any (TrP.later ha hW) (TrP.later hb hW) hs
 have hF:=fun W (hW:Below w.heap.size w W)=>eqF_any (cap:=cap) (cap':=cap') a.ks b.ks ih s7 s6 (fun i x hx=>by
  obtain ⟨b,off,ci,e1,kd⟩:=hkid i x hx
  exact ⟨b,off,ci,e1,kd.later hW⟩) (fun i x hx=>by
  obtain ⟨b,off,ci,e1,kd⟩:=hkid' i x hx
  exact ⟨b,off,ci,e1,kd.later hW⟩)
 have HE:Hid (smE a b = (alk a b && smL a.ks b.ks)):=smE_eq a b
 clear s6 s7 hkid hkid' ih ha hb hs
 have a1:=bal (Below.refl w.heap.size w) (.cells (exA a.k a.p a.o a.v a.s (.slice am a.m.length cm) a.r a.b1 a.b2 a.b3 a.b4 (.slice an a.ns.length cn) (.slice ao a.ks.length cap)) 28)
 have B2:=bal a1 (.cells (exA b.k b.p b.o b.v b.s (.slice am' b.m.length cm') b.r b.b1 b.b2 b.b3 b.b4 (.slice an' b.ns.length cn') (.slice ao' b.ks.length cap')) 28)
 have qa:=zab (bal (Below.refl (w.alloc (.cells (exA a.k a.p a.o a.v a.s (.slice am a.m.length cm) a.r a.b1 a.b2 a.b3 a.b4 (.slice an a.ns.length cn) (.slice ao a.ks.length cap)) 28)).heap.size (w.alloc (.cells (exA a.k a.p a.o a.v a.s (.slice am a.m.length cm) a.r a.b1 a.b2 a.b3 a.b4 (.slice an a.ns.length cn) (.slice ao a.ks.length cap)) 28))) (.cells (exA b.k b.p b.o b.v b.s (.slice am' b.m.length cm') b.r b.b1 b.b2 b.b3 b.b4 (.slice an' b.ns.length cn') (.slice ao' b.ks.length cap')) 28)) (zac w (.cells (exA a.k a.p a.o a.v a.s (.slice am a.m.length cm) a.r a.b1 a.b2 a.b3 a.b4 (.slice an a.ns.length cn) (.slice ao a.ks.length cap)) 28))
 have qb:((w.alloc (.cells (exA a.k a.p a.o a.v a.s (.slice am a.m.length cm) a.r a.b1 a.b2 a.b3 a.b4 (.slice an a.ns.length cn) (.slice ao a.ks.length cap)) 28)).alloc (.cells (exA b.k b.p b.o b.v b.s (.slice am' b.m.length cm') b.r b.b1 b.b2 b.b3 b.b4 (.slice an' b.ns.length cn') (.slice ao' b.ks.length cap')) 28)).heap[w.heap.size + 1]? = some (.cells (exA b.k b.p b.o b.v b.s (.slice am' b.m.length cm') b.r b.b1 b.b2 b.b3 b.b4 (.slice an' b.ns.length cn') (.slice ao' b.ks.length cap')) 28):=by
  have h:=zac (w.alloc (.cells (exA a.k a.p a.o a.v a.s (.slice am a.m.length cm) a.r a.b1 a.b2 a.b3 a.b4 (.slice an a.ns.length cn) (.slice ao a.ks.length cap)) 28)) (.cells (exA b.k b.p b.o b.v b.s (.slice am' b.m.length cm') b.r b.b1 b.b2 b.b3 b.b4 (.slice an' b.ns.length cn') (.slice ao' b.ks.length cap')) 28)
  rw [zbd] at h
  exact h
 clear a1
 cases hq:alk a b with
 | false=>
  have HR:Hid (smE a b = false):=by show _ = _;rw [HE.out,hq];rfl
  simp only [hq] at hA
  clear HE hF hq
  go_enter Tryz.func18,Tryz.ntmps18
  go_wp2_with (first | (refine zaj rfl 28 _ rfl w.heap.size (exA a.k a.p a.o a.v a.s (.slice am a.m.length cm) a.r a.b1 a.b2 a.b3 a.b4 (.slice an a.ns.length cn) (.slice ao a.ks.length cap)) 28 rfl qa _ Tryz.underlying28 rfl 13 zae rfl ?_) | (refine zaj rfl 28 _ rfl (w.heap.size + 1) (exA b.k b.p b.o b.v b.s (.slice am' b.m.length cm') b.r b.b1 b.b2 b.b3 b.b4 (.slice an' b.ns.length cn') (.slice ao' b.ks.length cap')) 28 rfl qb _ Tryz.underlying28 rfl 13 zae rfl ?_))
  refine (hA _ B2).mono ?_
  rintro e w2 ⟨rfl,b2⟩
  have B3:=B2.trans (b2.mono B2.size)
  go_wp2_with fail
  go_ret
  exact ⟨by rw [HR.out];rfl,B3⟩
 | true=>
  have HR:Hid (smE a b = smL a.ks b.ks):=by show _ = _;rw [HE.out,hq];rfl
  simp only [hq] at hA
  clear HE hq
  go_enter Tryz.func18,Tryz.ntmps18
  go_wp2_with (first | (refine zaj rfl 28 _ rfl w.heap.size (exA a.k a.p a.o a.v a.s (.slice am a.m.length cm) a.r a.b1 a.b2 a.b3 a.b4 (.slice an a.ns.length cn) (.slice ao a.ks.length cap)) 28 rfl qa _ Tryz.underlying28 rfl 13 zae rfl ?_) | (refine zaj rfl 28 _ rfl (w.heap.size + 1) (exA b.k b.p b.o b.v b.s (.slice am' b.m.length cm') b.r b.b1 b.b2 b.b3 b.b4 (.slice an' b.ns.length cn') (.slice ao' b.ks.length cap')) 28 rfl qb _ Tryz.underlying28 rfl 13 zae rfl ?_))
  refine (hA _ B2).mono ?_
  rintro e w2 ⟨rfl,b2⟩
  have B3:=B2.trans (b2.mono B2.size)
  have x12:=(zaa (zab b2 qa) 12).trans rfl
  have y12:=(zaa (zab b2 qb) 12).trans rfl
  go_wp2_with fail
  refine (hF _ B3).mono ?_
  rintro e w3 ⟨rfl,b3⟩
  have B4:=B3.trans (b3.mono B3.size)
  go_wp2_with fail
  go_ret
  exact ⟨by rw [HR.out];simp,B4⟩
end Go.Proofs.YtjlaihekocjggaaGreatDoor
