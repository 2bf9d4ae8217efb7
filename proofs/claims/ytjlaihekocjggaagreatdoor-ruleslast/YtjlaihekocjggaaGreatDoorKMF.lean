/- Texts that the others lean on. -/
import Derived.Test.YtjlaihekocjggaaGreatDoorKMB
import Derived.Test.YtjlaihekocjggaaGreatDoorKME
set_option maxHeartbeats 16000000
namespace Go.Proofs.YtjlaihekocjggaaGreatDoor
open Go.RowKit
theorem zby {α β:Type} {r:Er ⊕ α} {k:α → Er ⊕ β} {y:β} (h:bnd r k = .inr y):∃ x,r = .inr x ∧ k x = .inr y:=by
 cases r with
 | inl e=>cases h
 | inr x=>exact ⟨x,rfl,h⟩
def Shr {α:Type} (u:List Tk → Rs α):Prop:=∀ l x,u l = .inr x → x.2.length ≤ l.length
theorem zdu (l:List Tk):l.tail.length ≤ l.length:=by simp
theorem shr_nmI (q:Int):Shr (nmI q):=by
 intro l x h
 unfold nmI at h
 split at h
 ·
  injection h with h;subst h;exact zdu l
 cases h
theorem shr_mtI (q:Int):Shr (mtI q):=by
 intro l x h
 unfold mtI at h
 split at h
 ·
  cases h
 split at h
 ·
  cases h
 split at h
 ·
  cases h
 injection h with h;subst h;simp;omega
theorem zkt {α:Type} (q:Int) (cl:Str) (item:List Tk → Rs α) (few:List α → Bool) (hi:Shr item):∀ (k:Nat) (b:Bool) (acc:List α) (l:List Tk) (x:List α × List Tk),lsF q cl item few k b acc l = .inr x → x.2.length ≤ l.length
 | 0,_,_,_,_,h=>by cases h
 | k + 1,b,acc,l,x,h=>by
  unfold lsF at h
  split at h
  ·
   split at h
   ·
    injection h with h;subst h;exact zdu l
   cases h
  split at h
  ·
   cases h
  obtain ⟨y,h1,h2⟩:=zby h
  have a:=hi _ _ h1
  have b:=zkt q cl item few hi k false _ _ _ h2
  split at a
  ·
   omega
  have:=zdu l;omega
theorem shr_nmP (q:Int):Shr (nmP q):=by
 intro l x h
 unfold nmP at h
 split at h
 ·
  have:=zkt q _ _ _ (shr_nmI q) _ _ _ _ _ h
  have:=zdu l
  omega
 cases h
theorem shr_brP (q:Int) (a:List Mt):Shr (brP q a):=by
 intro l x h
 unfold brP at h
 split at h
 ·
  have:=zkt q _ _ _ (shr_mtI q) _ _ _ _ _ h
  have:=zdu l
  omega
 injection h with h;subst h;exact Nat.le_refl _
theorem shr_wnP (q:Int):Shr (wnP q):=by
 intro l x h
 unfold wnP at h
 split at h
 ·
  injection h with h;subst h;exact Nat.le_refl _
 split at h
 ·
  cases h
 split at h
 ·
  cases h
 injection h with h;subst h;simp;omega
theorem zmk (q:Int):Shr (selP q):=by
 intro l x h
 unfold selP at h
 obtain ⟨y,h1,h2⟩:=zby h
 obtain ⟨z,h3,h4⟩:=zby h2
 injection h4 with h4
 subst h4
 have a:=shr_brP q _ _ _ h1
 have b:=shr_wnP q _ _ h3
 have c:(selL q l).length ≤ l.length:=by
  unfold selL
  split
  ·
   exact zdu l
  exact Nat.le_refl _
 show z.2.length ≤ _
 omega
theorem shr_modP (q:Int):Shr (modP q):=by
 intro l x h
 unfold modP at h
 split at h
 ·
  injection h with h;subst h;exact Nat.le_refl _
 obtain ⟨y,h1,h2⟩:=zby h
 injection h2 with h2
 subst h2
 have:=shr_nmP q _ _ h1
 have:=zdu l
 show y.2.length ≤ _
 omega
theorem shr_grpP (q:Int):Shr (grpP q):=by
 intro l x h
 unfold grpP at h
 split at h
 ·
  injection h with h;subst h;exact Nat.le_refl _
 obtain ⟨y,h1,h2⟩:=zby h
 injection h2 with h2
 subst h2
 have:=shr_nmP q _ _ h1
 have:=zdu l
 show y.2.length ≤ _
 omega
theorem ziy (q:Int) (u:List Tk → Rs Ex) (hu:Shr u) (e:Ex) (l:List Tk) (x:Ex × List Tk) (h:joinP q u e l = .inr x):x.2.length ≤ l.tail.length:=by
 unfold joinP at h
 obtain ⟨y,h1,h2⟩:=zby h
 obtain ⟨z,h3,h4⟩:=zby h2
 injection h4 with h4
 subst h4
 have a:=shr_modP q _ _ h1
 have b:=hu _ _ h3
 show z.2.length ≤ _
 omega
theorem shr_chF (q lev:Int) (u:List Tk → Rs Ex) (hu:Shr u):∀ (k:Nat) (e:Ex) (l:List Tk) (x:Ex × List Tk),chF q lev u k e l = .inr x → x.2.length ≤ l.length
 | 0,_,_,_,h=>by injection h with h;subst h;exact Nat.le_refl _
 | k + 1,e,l,x,h=>by
  unfold chF at h
  split at h
  ·
   injection h with h;subst h;exact Nat.le_refl _
  obtain ⟨y,h1,h2⟩:=zby h
  have a:=ziy q u hu e l y h1
  have b:=shr_chF q lev u hu k _ _ _ h2
  have:=zdu l
  omega
theorem zer (q lev:Int) (u:List Tk → Rs Ex) (hu:Shr u):Shr (chP q lev u):=by
 intro l x h
 unfold chP at h
 obtain ⟨y,h1,h2⟩:=zby h
 have a:=hu _ _ h1
 have b:=shr_chF q lev u hu _ _ _ _ h2
 omega
theorem shr_cmpP (q:Int) (u:List Tk → Rs Ex) (hu:Shr u):Shr (cmpP q u):=zer q 1 _ (zer q 2 _ (zer q 3 _ hu))
theorem zhz (q:Int) (c:List Tk → Rs Ex) (hc:Shr c):Shr (brkP q c):=by
 intro l x h
 unfold brkP at h
 split at h
 ·
  cases h
 obtain ⟨y,h1,h2⟩:=zby h
 have a:=hc _ _ h1
 have b:=zdu l
 have d:=zdu y.2
 split at h2
 ·
  injection h2 with h2;subst h2;show y.2.tail.length ≤ _;omega
 cases h2
theorem shr_callP (q:Int) (c:List Tk → Rs Ex) (hc:Shr c):Shr (callP q c):=by
 intro l x h
 unfold callP at h
 obtain ⟨y,h1,h2⟩:=zby h
 injection h2 with h2
 subst h2
 have a:=zhz q c hc _ _ h1
 have b:=zdu l
 show y.2.length ≤ _
 omega
theorem shr_aggP (q:Int) (c:List Tk → Rs Ex) (hc:Shr c):Shr (aggP q c):=by
 intro l x h
 unfold aggP at h
 obtain ⟨y,h1,h2⟩:=zby h
 obtain ⟨z,h3,h4⟩:=zby h2
 injection h4 with h4
 subst h4
 have a:=shr_grpP q _ _ h1
 have b:=zhz q c hc _ _ h3
 have d:=zdu l
 show z.2.length ≤ _
 omega
theorem shr_prmP (q:Int) (c:List Tk → Rs Ex) (hc:Shr c):Shr (prmP q c):=by
 intro l x h
 unfold prmP namP at h
 split at h
 ·
  injection h with h;subst h;exact zdu l
 split at h
 ·
  split at h
  ·
   exact shr_aggP q c hc _ _ h
  split at h
  ·
   cases h
  split at h
  ·
   exact shr_callP q c hc _ _ h
  exact zmk q _ _ h
 split at h
 ·
  exact zhz q c hc _ _ h
 split at h
 ·
  exact zmk q _ _ h
 cases h
theorem shr_unP (q:Int) (n c:List Tk → Rs Ex) (hn:Shr n) (hc:Shr c):Shr (unP q n c):=by
 intro l x h
 unfold unP at h
 split at h
 ·
  exact shr_prmP q c hc _ _ h
 obtain ⟨y,h1,h2⟩:=zby h
 injection h2 with h2
 subst h2
 have a:=hn _ _ h1
 have b:=zdu l
 show y.2.length ≤ _
 omega
theorem zml (q:Int):Shr (deep q):=fun l x h=>by cases h
theorem zhy (q:Int):∀ d,Shr (unD q d)
 | 0=>shr_unP q _ _ (zml q) (zml q)
 | d + 1=>shr_unP q _ _ (zhy q d) (shr_cmpP q _ (zhy q d))
def OutW (R:Rc) (P:Nat → Prop) (w:World) (dp:Int) (res:Rs Ex) (cs:Array Value) (ok:Bool) (w':World):Prop:=
 match res with
 | .inr x=>ok = true ∧ ∃ j fp fy,x.2 = R.T.drop j ∧ TrP P w' x.1 cs ∧ Rd R w' j dp fp fy ∧ Off [R.b] w w'
 | .inl er=>ok = false ∧ ∃ j,Row 13 cs ∧ Rd R w' j dp er.1 er.2 ∧ Off [R.b] w w'
theorem TrP.cut {w:World} {lo hi:Nat} {e:Ex} {cs:Array Value} (h:Tr lo w e cs) (hh:w.heap.size ≤ hi):TrP (fun b=>lo ≤ b ∧ b ≠ hi) w e cs:=by
 revert cs
 refine Ex.ind (fun e=>∀ {cs:Array Value},Tr lo w e cs → TrP (fun b=>lo ≤ b ∧ b ≠ hi) w e cs) ?_ e
 intro e ih cs h
 have c:∀ {v:Value} {n:Nat} {cs:List Value},SlP (fun b=>lo ≤ b) w v n cs → (0 < n → 0 < cs.length) → SlP (fun b=>lo ≤ b ∧ b ≠ hi) w v n cs:=fun {v n cs} h hl=>by
  obtain ⟨ao,cap,e,hc,h4⟩:=h
  refine ⟨ao,cap,e,hc,fun hp=>?_⟩
  obtain ⟨b,off,e1,hl1,hcs⟩:=h4 hp
  have q:=hcs 0 (hl hp)
  rw [List.getElem?_eq_getElem (hl hp)] at q
  have:=World.block_lt_of_cell? _ _ q
  exact ⟨b,off,e1,⟨hl1,by show b ≠ hi;have:b < w.heap.size:=this;omega⟩,hcs⟩
 obtain ⟨vm,vn,vk,kss,h1,h2,h3,h4,h5,h6⟩:=(zfm _ _ _ _).mp h
 refine (zfm _ _ _ _).mpr ⟨vm,vn,vk,kss,h1,c h2 (fun hp=>by rw [zcu];omega),c h3 (fun hp=>by simpa using hp),c h4 (fun hp=>?_),h5,fun i x hx hi=>ih x hx (h6 i x hx hi)⟩
 have hk:0 < e.ks.length:=hp
 have hx:e.ks[0]? = some e.ks[0]:=List.getElem?_eq_getElem hk
 have r:=TrP.row (h6 0 _ (List.getElem_mem hk) hx)
 cases kss with
 | nil=>simp at h5;omega
 | cons a l=>
  have:a.size = 13:=r.1
  simp
  omega
def ChainOK (R:Rc) (lev dp:Int) (sp:List Tk → Rs Ex):Prop:=∀ (w:World) (i:Nat) (fp fy:Int),Rd R w i dp fp fy → Calls Tryz.prog 261 #[R.ptr,.int .i64 lev] w (OutP R w dp (sp (R.T.drop i)))
theorem isOp_any (R:Rc) {w:World} {i:Nat} {dp fp fy:Int} (lev:Int) (h:Rd R w i dp fp fy):Calls Tryz.prog 308 #[R.ptr,.int .i64 lev] w fun e w'=>e = .returned (.bool (isOp R.q lev (R.T.drop i))) ∧ Below w.heap.size w w':=by
 have ha:=zao R h
 have hl:=fun W=>lv_any (hd R.q (R.T.drop i)).t W
 unfold isOp
 generalize hd R.q (R.T.drop i) = x at *
 cases hk:x.k == 5 with
 | false=>
  go_enter Tryz.func308,Tryz.ntmps308
  go_wp2_with fail
  refine ha.mono ?_
  rintro e w1 ⟨rfl,b1⟩
  have q1:=zac w1 (.cells (tcs x) 161)
  have B:=bal b1 (.cells (tcs x) 161)
  go_upto_region 2 with fail
  generalize w1.alloc (.cells (tcs x) 161) = w2 at *
  have c0:=(zaa q1 0).trans rfl
  go_wp2_with fail
  go_ret
  exact ⟨rfl,B⟩
 | true=>
  generalize lv x.t = m at *
  cases hq:m == lev <;> (
   go_enter Tryz.func308,Tryz.ntmps308
   go_wp2_with fail
   refine ha.mono ?_
   rintro e w1 ⟨rfl,b1⟩
   have q1:=zac w1 (.cells (tcs x) 161)
   have B:=bal b1 (.cells (tcs x) 161)
   go_upto_region 2 with fail
   generalize w1.alloc (.cells (tcs x) 161) = w2 at *
   have c0:=(zaa q1 0).trans rfl
   have c2:=(zaa q1 2).trans rfl
   go_wp2_with fail
   refine (hl _).mono ?_
   rintro e w3 ⟨rfl,rfl⟩
   go_wp2_with fail
   go_ret
   exact ⟨rfl,B⟩)
set_option maxRecDepth 20000 in
theorem zon (R:Rc) (lev dp:Int) (hl1:0 ≤ lev) (hl2:lev ≤ 3) (u:List Tk → Rs Ex) (hU:ChainOK R (lev + 1) dp u) {w:World} {i:Nat} {fp fy:Int} (h:Rd R w i dp fp fy) (hi:i < R.n) (e0:Ex) (cl:Array Value) (P:Nat → Prop) (hP:∀ b,w.heap.size ≤ b → P b) (hlb:¬ P R.b) (tl:TrP P w e0 cl) :
  Calls Tryz.prog 309 #[R.ptr,.agg cl,.int .i64 lev] w fun e w'=>∃ cs ok,e = .returned (.tuple #[.agg cs,.bool ok]) ∧ OutW R P w dp (joinP R.q u e0 (R.T.drop i)) cs ok w':=by
 have hbl:=h.bl
 have rowL:=tl.row
 have hhere:=fun W (hW:Rd R W i dp fp fy)=>zdb R hW
 have htk:=fun W (hW:Rd R W i dp fp fy)=>zbo R hW hi
 have HC:Hid (joinP R.q u e0 (R.T.drop i) = bnd (modP R.q (R.T.drop (i + 1))) fun y=>bnd (u y.2) fun z=>.inr (⟨5,(hd R.q (R.T.drop i)).p,false,0,(hd R.q (R.T.drop i)).t,[],0,false,false,y.1.on,y.1.ig,y.1.ns,[e0,z.1]⟩,z.2)):=by
  show _ = _
  unfold joinP
  rw [List.tail_drop]
  rfl
 generalize joinP R.q u e0 (R.T.drop i) = RES at *
 generalize hd R.q (R.T.drop i) = x at *
 have hf2:=fld2 x
 go_enter Tryz.func309,Tryz.ntmps309
 have O0:=Off.refl [R.b] w
 have a_1:=bal (Below.refl (w).heap.size (w)) (.cells cl 28)
 have zz_1:=zaf (w) (.cells cl 28)
 have z_2:=a_1.size
 have rd_3:=h.later a_1
 have O_4:=O0.on a_1
 have lf_n1:=zac (w) (.cells cl 28)
 clear h O0 a_1
 have a_5:=bal (Below.refl (w.alloc (.cells cl 28)).heap.size (w.alloc (.cells cl 28))) (.cells zE 28)
 have zz_5:=zaf (w.alloc (.cells cl 28)) (.cells zE 28)
 have z_6:=a_5.size
 have rd_7:=rd_3.later a_5
 have O_8:=O_4.on a_5
 have lf_9:=zab a_5 lf_n1
 have res_n5:=zac (w.alloc (.cells cl 28)) (.cells zE 28)
 clear rd_3 O_4 lf_n1 a_5
 have res2:((w.alloc (.cells cl 28)).alloc (.cells zE 28)).heap[w.heap.size + 1]? = some (.cells zE 28):=by have q:=res_n5;rw [zbd] at q;exact q
 have zs2:w.heap.size + 1 < ((w.alloc (.cells cl 28)).alloc (.cells zE 28)).heap.size:=by rw [zbd,zbd];omega
 clear res_n5
 go_upto_region 1 with fail
 generalize (w.alloc (.cells cl 28)).alloc (.cells zE 28) = w0 at *
 go_wp2_with fail
 refine (hhere _ rd_7).mono ?_
 rintro e w1 ⟨rfl,b1⟩
 have z_10:=b1.size
 have rd_11:=rd_7.later b1
 have O_12:=O_8.on b1
 have lf_13:=zab b1 lf_9
 have res_14:=zab b1 res2
 clear rd_7 O_8 lf_9 res2
 go_wp2_with fail
 refine (zcf x.p 5 _).mono ?_
 rintro e w2 ⟨rfl,b2⟩
 have z_15:=b2.size
 have rd_16:=rd_11.later b2
 have O_17:=O_12.on b2
 have lf_18:=zab b2 lf_13
 have res_19:=zab b2 res_14
 clear rd_11 O_12 lf_13 res_14
 have a_20:=bal (Below.refl (w2).heap.size (w2)) (.cells (ndA x.p 5 0 false 0 [] nl 0 false false false false nl nl) 356)
 have zz_20:=zaf (w2) (.cells (ndA x.p 5 0 false 0 [] nl 0 false false false false nl nl) 356)
 have z_21:=a_20.size
 have rd_22:=rd_16.later a_20
 have O_23:=O_17.on a_20
 have lf_24:=zab a_20 lf_18
 have res_25:=zab a_20 res_19
 have nd_n20:=zac (w2) (.cells (ndA x.p 5 0 false 0 [] nl 0 false false false false nl nl) 356)
 clear rd_16 O_17 lf_18 res_19 a_20
 go_upto_region 2 with fail
 generalize w2.alloc (.cells (ndA x.p 5 0 false 0 [] nl 0 false false false false nl nl) 356) = w3 at *
 go_wp2_with fail
 refine (htk _ rd_22).mono ?_
 rintro e w4 ⟨rfl,R4,o4⟩
 have z_26:=o4.size
 have O_27:=O_23.trans o4 (by simp <;> omega)
 have lf_28:=o4.heap lf_24 (by simp <;> omega)
 have res_29:=o4.heap res_25 (by simp <;> omega)
 have nd_30:=o4.heap nd_n20 (by simp <;> omega)
 clear rd_22 O_23 lf_24 res_25 nd_n20
 go_upto_region 3 with (refine zdt rfl 9 _ _ rfl w2.heap.size 5 (tx x.t) rfl rfl (ndA x.p 5 0 false 0 [] nl 0 false false false false nl nl) 356 nd_30 (by simp) inf9 rfl (ndA x.p 5 0 false 0 x.t nl 0 false false false false nl nl) rfl ?_;intro w5 nd5 o5 z5)
 clear hf2 z5
 have z_31:=o5.size
 have rd_32:=R4.off o5 (by simp <;> omega)
 have O_33:=O_27.trans o5 (by simp <;> omega)
 have lf_34:=o5.heap lf_28 (by simp <;> omega)
 have res_35:=o5.heap res_29 (by simp <;> omega)
 clear nd_30 R4 O_27 lf_28 res_29
 have hmd:=zjm R (nb:=w2.heap.size) (f:=(⟨x.p,5,0,false,0,x.t,nl,0,false,false,false,false,nl,nl⟩:Nf)) rd_32 nd5 (by omega) rfl rfl rfl
 have O5:=O_33
 have res5:=res_35
 have lf5:=lf_34
 cases hm:modP R.q (R.T.drop (i + 1)) with
 | inr y=>
  obtain ⟨md,l2⟩:=y
  obtain ⟨m3,m4,ns⟩:=md
  rw [hm] at hmd HC
  go_wp2_with fail
  refine hmd.mono ?_
  rintro e w6 ⟨an,n,cn,j,fp2,fy2,rfl,hyl,R6,nd6,sl6,o6⟩
  dsimp only at hyl nd6 sl6
  subst hyl
  clear hmd hm
  have z6:=o6.size
  have O6:=O5.trans o6 (by simp <;> omega)
  have res6:=o6.heap res5 (by simp <;> omega)
  have lf6:=o6.heap lf5 (by simp <;> omega)
  clear o6 O5 res5 lf5
  have hc:=hU w6 j fp2 fy2 R6
  clear hU
  cases hr:u (R.T.drop j) with
  | inr z=>
   rw [hr] at hc
   obtain ⟨e1,l1⟩:=z
   have HX:Hid (RES = .inr (⟨5,x.p,false,0,x.t,[],0,false,false,m3,m4,ns,[e0,e1]⟩,l1)):=by show _ = _;rw [HC.out];show bnd (u (R.T.drop j)) _ = _;rw [hr];rfl
   clear HC hr
   go_wp2_with fail
   refine hc.mono ?_
   rintro e w7 ⟨cs,j2,fp3,fy3,rfl,hl1,t7,R7,o7⟩
   dsimp only at hl1
   subst hl1
   have row:=t7.row
   clear hc
   have z_36:=o7.size
   have nd_37:=o7.heap nd6 (by simp <;> omega)
   have O_38:=O6.trans o7 (by simp <;> omega)
   have res_39:=o7.heap res6 (by simp <;> omega)
   have lf_40:=o7.heap lf6 (by simp <;> omega)
   have sl_41:=sl6.off o7 (by simp <;> omega)
   clear R6 nd6 O6 res6 lf6 sl6
   go_upto_region 6 with (refine zcm (w:=w7) rfl 28 _ _ rfl zE cs rfl rfl 13 zae rfl row ?_;intro w8 l8 b8 s8)
   have z_42:=b8.size
   have rd_43:=R7.later b8
   have nd_44:=zab b8 nd_37
   have O_45:=O_38.on b8
   have res_46:=zab b8 res_39
   have lf_47:=zab b8 lf_40
   have sl_48:=sl_41.later b8
   have t_49:=t7.later b8
   clear R7 nd_37 O_38 res_39 lf_40 sl_41 t7
   go_upto_region 7 with (first | (refine zaj rfl 28 _ rfl w.heap.size cl 28 rfl lf_47 _ Tryz.underlying28 rfl 13 zae rowL.1 ?_) | (refine zaj rfl 28 _ rfl w7.heap.size cs 28 rfl l8 _ Tryz.underlying28 rfl 13 zae row.1 ?_) | (refine wp_mk2 rfl _ _ rfl cl cs rfl rfl rowL.1 row.1 ?_;intro w9 k9 b9 s9) | (refine zdt rfl 26 _ _ rfl w2.heap.size 13 (.slice (some ⟨w8.heap.size,0,none⟩) 2 2) rfl rfl (ndA x.p 5 0 false 0 x.t nl 0 false false m3 m4 (.slice an n cn) nl) 356 (zab b9 nd_44) (by simp) zos rfl (ndA x.p 5 0 false 0 x.t nl 0 false false m3 m4 (.slice an n cn) (.slice (some ⟨w8.heap.size,0,none⟩) 2 2)) rfl ?_;intro w10 nd10 o10 z10))
   have z_50:=b9.size
   have rd_51:=rd_43.later b9
   have O_52:=O_45.on b9
   have res_53:=zab b9 res_46
   have sl_54:=sl_48.later b9
   have t_55:=t_49.later b9
   clear nd_44 l8 lf_47 rd_43 O_45 res_46 sl_48 t_49
   have z_56:=o10.size
   have rd_57:=rd_51.off o10 (by simp <;> omega)
   have O_58:=O_52.trans o10 (by simp <;> omega)
   have res_59:=o10.heap res_53 (by simp <;> omega)
   have sl_60:=sl_54.off o10 (by simp <;> omega)
   have t_61:=Tr.off o10 (by simp <;> omega) _ t_55
   have kd_62:=o10.heap k9 (by simp <;> omega)
   clear rd_51 O_52 res_53 sl_54 t_55 k9
   go_wp2_with (refine zaj rfl 356 _ rfl w2.heap.size (⟨x.p,5,0,false,0,x.t,nl,0,false,false,m3,m4,.slice an n cn,(.slice (some ⟨w8.heap.size,0,none⟩) 2 2)⟩:Nf).arr 356 rfl nd10 _ Tryz.underlying356 rfl 14 zcd rfl ?_)
   refine (zdd (⟨x.p,5,0,false,0,x.t,nl,0,false,false,m3,m4,.slice an n cn,(.slice (some ⟨w8.heap.size,0,none⟩) 2 2)⟩:Nf) ⟨⟨_,_,_,rfl⟩,⟨_,_,_,rfl⟩,⟨_,_,_,rfl⟩⟩ _).mono ?_
   rintro e w11 ⟨rfl,b11⟩
   have z_63:=b11.size
   have rd_64:=rd_57.later b11
   have O_65:=O_58.on b11
   have res_66:=zab b11 res_59
   have sl_67:=sl_60.later b11
   have t_68:=t_61.later b11
   have kd_69:=zab b11 kd_62
   clear nd10 rd_57 O_58 res_59 sl_60 t_61 kd_62
   go_wp2_with (refine zad rfl 28 _ _ rfl (w.heap.size + 1) (⟨x.p,5,0,false,0,x.t,nl,0,false,false,m3,m4,.slice an n cn,(.slice (some ⟨w8.heap.size,0,none⟩) 2 2)⟩:Nf).ex rfl rfl _ 28 res_66 13 zae rfl ⟨rfl,rfl⟩ ?_;intro we re oe ze)
   have z_70:=oe.size
   have rd_71:=rd_64.off oe (by simp <;> omega)
   have O_72:=O_65.trans oe (by simp <;> omega)
   have sl_73:=sl_67.off oe (by simp <;> omega)
   have t_74:=Tr.off oe (by simp <;> omega) _ t_68
   have kd_75:=oe.heap kd_69 (by simp <;> omega)
   rw [HX.out]
   exact bodyPost_ret (zai Tryz.results309 _ _ (w.heap.size + 1) 28 (⟨x.p,5,0,false,0,x.t,nl,0,false,false,m3,m4,.slice an n cn,(.slice (some ⟨w8.heap.size,0,none⟩) 2 2)⟩:Nf).ex _ rfl re Tryz.underlying28 rfl 13 zae rfl) rfl ⟨_,true,rfl,rfl,j2,fp3,fy3,rfl,Tr.kid2 (Sl.nil _ _ _) (SlP.mono sl_73 (fun b hb=>hP b (by omega))) kd_75 (hP _ (by omega)) (TrP.off O_72 (by simpa using hlb) _ tl) (TrP.mono (fun b hb=>hP b (by omega)) _ t_74),rd_71,O_72⟩
  | inl er=>
   rw [hr] at hc
   have HX:Hid (RES = .inl er):=by show _ = _;rw [HC.out];show bnd (u (R.T.drop j)) _ = _;rw [hr];rfl
   clear HC hr
   go_wp2_with fail
   refine hc.mono ?_
   rintro e w7 ⟨cs,j2,rfl,row,R7,o7⟩
   clear hc
   have z_36:=o7.size
   have nd_37:=o7.heap nd6 (by simp <;> omega)
   have O_38:=O6.trans o7 (by simp <;> omega)
   have res_39:=o7.heap res6 (by simp <;> omega)
   have lf_40:=o7.heap lf6 (by simp <;> omega)
   have sl_41:=sl6.off o7 (by simp <;> omega)
   clear R6 nd6 O6 res6 lf6 sl6
   go_upto_region 6 with (refine zcm (w:=w7) rfl 28 _ _ rfl zE cs rfl rfl 13 zae rfl row ?_;intro w8 l8 b8 s8)
   have z_42:=b8.size
   have rd_43:=R7.later b8
   have nd_44:=zab b8 nd_37
   have O_45:=O_38.on b8
   have res_46:=zab b8 res_39
   have lf_47:=zab b8 lf_40
   have sl_48:=sl_41.later b8
   clear R7 nd_37 O_38 res_39 lf_40 sl_41
   go_upto_region 7 with (first | (refine zaj rfl 28 _ rfl w.heap.size cl 28 rfl lf_47 _ Tryz.underlying28 rfl 13 zae rowL.1 ?_) | (refine zaj rfl 28 _ rfl w7.heap.size cs 28 rfl l8 _ Tryz.underlying28 rfl 13 zae row.1 ?_) | (refine wp_mk2 rfl _ _ rfl cl cs rfl rfl rowL.1 row.1 ?_;intro w9 k9 b9 s9) | (refine zdt rfl 26 _ _ rfl w2.heap.size 13 (.slice (some ⟨w8.heap.size,0,none⟩) 2 2) rfl rfl (ndA x.p 5 0 false 0 x.t nl 0 false false m3 m4 (.slice an n cn) nl) 356 (zab b9 nd_44) (by simp) zos rfl (ndA x.p 5 0 false 0 x.t nl 0 false false m3 m4 (.slice an n cn) (.slice (some ⟨w8.heap.size,0,none⟩) 2 2)) rfl ?_;intro w10 nd10 o10 z10))
   have z_49:=b9.size
   have rd_50:=rd_43.later b9
   have O_51:=O_45.on b9
   have res_52:=zab b9 res_46
   have sl_53:=sl_48.later b9
   clear nd_44 l8 lf_47 rd_43 O_45 res_46 sl_48
   have z_54:=o10.size
   have rd_55:=rd_50.off o10 (by simp <;> omega)
   have O_56:=O_51.trans o10 (by simp <;> omega)
   have res_57:=o10.heap res_52 (by simp <;> omega)
   have sl_58:=sl_53.off o10 (by simp <;> omega)
   have kd_59:=o10.heap k9 (by simp <;> omega)
   clear rd_50 O_51 res_52 sl_53 k9
   go_wp2_with (refine zaj rfl 356 _ rfl w2.heap.size (⟨x.p,5,0,false,0,x.t,nl,0,false,false,m3,m4,.slice an n cn,(.slice (some ⟨w8.heap.size,0,none⟩) 2 2)⟩:Nf).arr 356 rfl nd10 _ Tryz.underlying356 rfl 14 zcd rfl ?_)
   refine (zdd (⟨x.p,5,0,false,0,x.t,nl,0,false,false,m3,m4,.slice an n cn,(.slice (some ⟨w8.heap.size,0,none⟩) 2 2)⟩:Nf) ⟨⟨_,_,_,rfl⟩,⟨_,_,_,rfl⟩,⟨_,_,_,rfl⟩⟩ _).mono ?_
   rintro e w11 ⟨rfl,b11⟩
   have z_60:=b11.size
   have rd_61:=rd_55.later b11
   have O_62:=O_56.on b11
   have res_63:=zab b11 res_57
   have sl_64:=sl_58.later b11
   have kd_65:=zab b11 kd_59
   clear nd10 rd_55 O_56 res_57 sl_58 kd_59
   go_wp2_with (refine zad rfl 28 _ _ rfl (w.heap.size + 1) (⟨x.p,5,0,false,0,x.t,nl,0,false,false,m3,m4,.slice an n cn,(.slice (some ⟨w8.heap.size,0,none⟩) 2 2)⟩:Nf).ex rfl rfl _ 28 res_63 13 zae rfl ⟨rfl,rfl⟩ ?_;intro we re oe ze)
   have z_66:=oe.size
   have rd_67:=rd_61.off oe (by simp <;> omega)
   have O_68:=O_62.trans oe (by simp <;> omega)
   have sl_69:=sl_64.off oe (by simp <;> omega)
   have kd_70:=oe.heap kd_65 (by simp <;> omega)
   rw [HX.out]
   exact bodyPost_ret (zai Tryz.results309 _ _ (w.heap.size + 1) 28 (⟨x.p,5,0,false,0,x.t,nl,0,false,false,m3,m4,.slice an n cn,(.slice (some ⟨w8.heap.size,0,none⟩) 2 2)⟩:Nf).ex _ rfl re Tryz.underlying28 rfl 13 zae rfl) rfl ⟨_,false,rfl,rfl,j2,⟨rfl,rfl⟩,rd_67,O_68⟩
 | inl er=>
  rw [hm] at hmd HC
  have HX:Hid (RES = .inl er):=HC
  clear HC hm
  go_wp2_with fail
  refine hmd.mono ?_
  rintro e w6 ⟨b3,b4,an,n,cn,j,rfl,R6,nd6,o6⟩
  clear hmd
  have z6:=o6.size
  have O6:=O5.trans o6 (by simp <;> omega)
  have res6:=o6.heap res5 (by simp <;> omega)
  go_wp2_with (refine zad rfl 28 _ _ rfl (w.heap.size + 1) zE rfl rfl _ 28 res6 13 zae rfl rowZ ?_;intro we re oe ze)
  have z_36:=oe.size
  have rd_37:=R6.off oe (by simp <;> omega)
  have O_38:=O6.trans oe (by simp <;> omega)
  rw [HX.out]
  exact bodyPost_ret (zai Tryz.results309 _ _ (w.heap.size + 1) 28 zE _ rfl re Tryz.underlying28 rfl 13 zae rfl) rfl ⟨_,false,rfl,rfl,j,rowZ,rd_37,O_38⟩
set_option maxRecDepth 20000 in
theorem zpa (R:Rc) (dp:Int) (u:List Tk → Rs Ex) (hN:RunOK R 307 dp u):ChainOK R 4 dp u:=by
 intro w i fp fy h
 have hbl:=h.bl
 have kn:=fun W (hW:Rd R W i dp fp fy)=>hN W i fp fy hW
 clear hN
 go_enter Tryz.func261,Tryz.ntmps261
 have O0:=Off.refl [R.b] w
 have a_1:=bZ w
 have zz_1:=fZ w
 have z_2:=a_1.size
 have rd_3:=h.later a_1
 have O_4:=O0.on a_1
 have res_n1:=cZ w
 clear h O0 a_1
 have OV:=O_4
 go_wp2_with fail
 refine (kn _ rd_3).mono ?_
 intro e wv hq
 obtain ⟨cs,ok,rfl,V⟩:=hq.v
 clear hq
 have row:=V.row
 have z_5:=V.heap.size
 have res_6:=V.heap.heap res_n1 (by simp <;> omega)
 clear rd_3 O_4 res_n1
 go_wp2_with (refine zad rfl 28 _ _ rfl w.heap.size cs rfl rfl _ 28 res_6 13 zae rfl row ?_;intro we re oe ze)
 exact bodyPost_ret (zai Tryz.results261 _ _ w.heap.size 28 cs _ rfl re Tryz.underlying28 rfl 13 zae row.1) rfl (V.hand2 OV (by omega) hbl oe).p
set_option maxRecDepth 20000 in
theorem zgs (R:Rc) (dp:Int) (sp:List Tk → Rs Ex) (hN:ChainOK R 1 dp sp):RunOK R 202 dp sp:=by
 intro w i fp fy h
 have hbl:=h.bl
 have kn:=fun W (hW:Rd R W i dp fp fy)=>hN W i fp fy hW
 clear hN
 go_enter Tryz.func202,Tryz.ntmps202
 have O0:=Off.refl [R.b] w
 have a_1:=bZ w
 have zz_1:=fZ w
 have z_2:=a_1.size
 have rd_3:=h.later a_1
 have O_4:=O0.on a_1
 have res_n1:=cZ w
 clear h O0 a_1
 have OV:=O_4
 go_wp2_with fail
 refine (kn _ rd_3).mono ?_
 intro e wv hq
 obtain ⟨cs,ok,rfl,V⟩:=hq.v
 clear hq
 have row:=V.row
 have z_5:=V.heap.size
 have res_6:=V.heap.heap res_n1 (by simp <;> omega)
 clear rd_3 O_4 res_n1
 go_wp2_with (refine zad rfl 28 _ _ rfl w.heap.size cs rfl rfl _ 28 res_6 13 zae rfl row ?_;intro we re oe ze)
 exact bodyPost_ret (zai Tryz.results202 _ _ w.heap.size 28 cs _ rfl re Tryz.underlying28 rfl 13 zae row.1) rfl (V.hand2 OV (by omega) hbl oe).p
def chM (R:Rc) (t:Value) (w:World):Nat:=match t with
 | .bool true=>R.n + 2 - posOf R w
 | _=>0
structure Ch (R:Rc) (w:World) (P:Nat → Prop) (lb:Nat) (lev:Int) (u:List Tk → Rs Ex) (RES:Rs Ex) (wr:World) (dp:Int) (ok:Bool) (i:Nat) (fp fy:Int) (e:Ex) (cs:Array Value) (k:Nat):Prop where
 rd:Rd R wr i dp fp fy
 lc:wr.heap[lb]? = some (.cells cs 28)
 row:Row 13 cs
 res:wr.heap[w.heap.size]? = some (.cells zE 28)
 off:Off [R.b] w wr
 st:(ok = true ∧ TrP P wr e cs ∧ R.n - i < k ∧ RES = chF R.q lev u k e (R.T.drop i)) ∨ (ok = false ∧ RES = .inl (fp,fy))
set_option maxRecDepth 20000 in
theorem zgl (R:Rc) (lev dp:Int) (hl1:1 ≤ lev) (hl2:lev ≤ 3) (u:List Tk → Rs Ex) (hS:Shr u) (hU:ChainOK R (lev + 1) dp u):ChainOK R lev dp (chP R.q lev u):=by
 intro w i fp fy h
 have hbl:=h.bl
 have HLT:Hid (R.T.length = R.n):=h.ts.1
 have HC:Hid (chP R.q lev u (R.T.drop i) = bnd (u (R.T.drop i)) fun x=>chF R.q lev u (x.2.length + 1) x.1 x.2):=rfl
 generalize chP R.q lev u (R.T.drop i) = RES at *
 have hg3:¬ 3 < lev:=by omega
 have HS:Hid (Shr u):=hS
 clear hS
 go_enter Tryz.func261,Tryz.ntmps261
 have O0:=Off.refl [R.b] w
 have a_1:=bZ w
 have zz_1:=fZ w
 have z_2:=a_1.size
 have rd_3:=h.later a_1
 have O_4:=O0.on a_1
 have res_n1:=cZ w
 clear h O0 a_1
 go_upto_region 3 with fail
 generalize w.alloc (.cells zE 28) = w1 at *
 have hc:=hU w1 i fp fy rd_3
 go_wp2_with fail
 refine hc.mono ?_
 intro e w2 hq
 obtain ⟨cs,ok,rfl,V⟩:=hq.v
 have row:=V.row
 clear hq hc
 have z_5:=V.heap.size
 have O_6:=O_4.trans V.heap (by simp <;> omega)
 have res_7:=V.heap.heap res_n1 (by simp <;> omega)
 clear rd_3 O_4 res_n1
 go_wp2_with (refine zcm (w:=w2) rfl 28 _ _ rfl zE cs rfl rfl 13 zae rfl row ?_;intro w3 l3 b3 s3)
 have z_8:=b3.size
 have O_9:=O_6.on b3
 have res_10:=zab b3 res_7
 clear O_6 res_7
 have z13:w1.heap.size ≤ w2.heap.size:=by omega
 have C0:∃ (i':Nat) (fp' fy':Int) (e':Ex) (k':Nat),Ch R w (fun b=>w1.heap.size ≤ b ∧ b ≠ w2.heap.size) w2.heap.size lev u RES w3 dp ok i' fp' fy' e' cs k':=by
  cases hr:u (R.T.drop i) with
  | inr x=>
   rw [hr] at HC V
   obtain ⟨rfl,j,fp',fy',h1,h2,h3,h4⟩:=V
   have hj:=h3.ib
   refine ⟨j,fp',fy',x.1,x.2.length + 1,h3.later b3,l3,row,res_10,O_9,Or.inl ⟨rfl,?_,?_,?_⟩⟩
   ·
    exact TrP.later (TrP.cut h2 (Nat.le_refl _)) b3
   ·
    rw [h1,List.length_drop,HLT.out];omega
   rw [HC.out];show chF R.q lev u (x.2.length + 1) x.1 x.2 = _;rw [h1]
  | inl er=>
   rw [hr] at HC V
   obtain ⟨rfl,j,h2,h3,h4⟩:=V
   exact ⟨j,er.1,er.2,ex0,0,h3.later b3,l3,row,res_10,O_9,Or.inr ⟨rfl,HC.out⟩⟩
 obtain ⟨i',fp',fy',e',k',C0⟩:=C0
 have hw12:w.heap.size < w1.heap.size:=by omega
 clear V HC
 generalize hPd:(fun b=>w1.heap.size ≤ b ∧ b ≠ w2.heap.size) = P at *
 have hPa:Hid (∀ b,w2.heap.size < b → P b):=fun b hb=>by rw [← hPd];show w1.heap.size ≤ b ∧ b ≠ w2.heap.size;omega
 have hPb:Hid (∀ b,P b → w1.heap.size ≤ b ∧ b ≠ w2.heap.size):=fun b hb=>by rw [← hPd] at hb;exact hb
 clear hPd
 go_loopw [7] (fun t wr=>∃ (ok:Bool) (i:Nat) (fp fy:Int) (e:Ex) (cs:Array Value) (k:Nat),t = .bool ok ∧ Ch R w P w2.heap.size lev u RES wr dp ok i fp fy e cs k) (fun t wr=>chM R t wr)
 case atStart=>exact ⟨ok,i',fp',fy',e',cs,k',rfl,C0⟩
 case round=>
  clear C0 row O_9 res_10 l3 b3
  obtain ⟨ok,i,fp,fy,e,cs,k,rfl,C⟩:=hrel
  have row:=C.row
  have h2r:=zah C.lc
  cases ok with
  | false=>
   have HX:Hid (RES = .inl (fp,fy)):=by
    show _ = _
    rcases C.st with ⟨e,_⟩ | ⟨_,e⟩
    ·
     cases e
    exact e
   go_wp2_with (first | (refine zaj rfl 28 _ rfl w2.heap.size cs 28 rfl C.lc _ Tryz.underlying28 rfl 13 zae row.1 ?_) | (refine zad rfl 28 _ _ rfl w.heap.size cs rfl rfl _ 28 C.res 13 zae rfl row ?_;intro we re oe ze))
   rw [HX.out]
   exact bodyPost_ret (zai Tryz.results261 _ _ w.heap.size 28 cs _ rfl re Tryz.underlying28 rfl 13 zae row.1) rfl ⟨cs,i,rfl,row,C.rd.off oe (by simp <;> omega),C.off.trans oe (by simp)⟩
  | true=>
   obtain ⟨k1,HT,hk1,HR⟩:∃ k1,Hid (TrP P wr e cs) ∧ R.n - i < k1 + 1 ∧ Hid (RES = chF R.q lev u (k1 + 1) e (R.T.drop i)):=by
    rcases C.st with ⟨_,a,b,c⟩ | ⟨e,_⟩
    ·
     obtain ⟨k1,rfl⟩:∃ k1,k = k1 + 1:=⟨k - 1,by omega⟩
     exact ⟨k1,a,b,c⟩
    cases e
   have hop:=isOp_any R lev C.rd
   cases ho:isOp R.q lev (R.T.drop i) with
   | false=>
    have HX:Hid (RES = .inr (e,R.T.drop i)):=by show _ = _;rw [HR.out,chF,if_pos ho]
    rw [ho] at hop
    clear ho HR
    go_wp2_with fail
    refine hop.mono ?_
    rintro e1 w4 ⟨rfl,b4⟩
    have R4:=C.rd.later b4
    have l4:=zab b4 C.lc
    have r4:=zab b4 C.res
    have O4:=C.off.on b4
    have T4:Hid (TrP P w4 e cs):=TrP.later HT.out b4
    have z4:=b4.size
    clear hop b4
    go_wp2_with (first | (refine zaj rfl 28 _ rfl w2.heap.size cs 28 rfl l4 _ Tryz.underlying28 rfl 13 zae row.1 ?_) | (refine zad rfl 28 _ _ rfl w.heap.size cs rfl rfl _ 28 r4 13 zae rfl row ?_;intro we re oe ze))
    rw [HX.out]
    exact bodyPost_ret (zai Tryz.results261 _ _ w.heap.size 28 cs _ rfl re Tryz.underlying28 rfl 13 zae row.1) rfl ⟨cs,i,fp,fy,rfl,rfl,TrP.mono (fun b hb=>by have:=hPb.out b hb;show w.heap.size ≤ b;omega) _ (TrP.off oe (fun x hx hq=>by have e:=List.mem_singleton.1 hx;subst e;have:=hPb.out _ hq;omega) _ T4.out) ,R4.off oe (by simp <;> omega),O4.trans oe (by simp)⟩
   | true=>
    have hk5:(hd R.q (R.T.drop i)).k ≠ 0:=by
     unfold isOp at ho
     rw [Bool.and_eq_true] at ho
     rw [eq_of_beq ho.1]
     decide
    have hi:=zih C.rd hk5
    have HN:Hid (RES = bnd (joinP R.q u e (R.T.drop i)) fun x=>chF R.q lev u k1 x.1 x.2):=by show _ = _;rw [HR.out,chF,if_neg (by simp [ho])]
    rw [ho] at hop
    clear ho HR hk5
    go_wp2_with fail
    refine hop.mono ?_
    rintro e1 w4 ⟨rfl,b4⟩
    have R4:=C.rd.later b4
    have l4:=zab b4 C.lc
    have r4:=zab b4 C.res
    have O4:=C.off.on b4
    have z4:=b4.size
    have hj:=zon R lev dp (by omega) hl2 u hU R4 hi e cs P (fun b hb=>hPa.out b (by omega)) (fun hq=>by have:=hPb.out _ hq;omega) (TrP.later HT.out b4)
    clear hop b4 HT
    cases hr:joinP R.q u e (R.T.drop i) with
    | inr x=>
     rw [hr] at hj HN
     have hsh:=ziy R.q u HS.out e _ x hr
     obtain ⟨e2,l2⟩:=x
     have HM:Hid (RES = chF R.q lev u k1 e2 l2):=HN
     clear HN hr
     go_wp2_with (refine zaj rfl 28 _ rfl w2.heap.size cs 28 rfl l4 _ Tryz.underlying28 rfl 13 zae row.1 ?_)
     refine hj.mono ?_
     rintro e1 w5 ⟨cs5,ok5,rfl,rfl,j,fp5,fy5,hl,t5,R5,o5⟩
     dsimp only at hl
     subst hl
     have row5:=t5.row
     have l5:=o5.heap l4 (by simp <;> omega)
     have r5:=o5.heap r4 (by simp <;> omega)
     have O5:=O4.then o5
     have z5:=o5.size
     have T5:Hid (TrP P w5 e2 cs5):=t5
     have hjn:=R5.ib
     have hij:i + 1 ≤ j:=by
      rw [List.tail_drop,List.length_drop,List.length_drop,HLT.out] at hsh
      omega
     clear hj t5 hsh
     go_wp2_with (refine zad rfl 28 _ _ rfl w2.heap.size cs5 rfl rfl cs 28 l5 13 zae row.1 row5 ?_;intro w6 l6 o6 z6)
     have C6:Ch R w P w2.heap.size lev u RES w6 dp true j fp5 fy5 e2 cs5 k1:=⟨R5.off o6 (by simp <;> omega),l6,row5,o6.heap r5 (by simp <;> omega),O5.trans o6 (by simp <;> omega),Or.inl ⟨rfl,TrP.off o6 (by simpa using fun hq=>(hPb.out _ hq).2 rfl) _ T5.out,by omega,HM.out⟩⟩
     go_roundw
     case rel=>exact ⟨true,j,fp5,fy5,e2,cs5,k1,rfl,C6⟩
     case measure=>simp only [chM];rw [C6.rd.pos,C.rd.pos];omega
    | inl er=>
     rw [hr] at hj HN
     have HM:Hid (RES = .inl er):=HN
     clear HN hr
     go_wp2_with (refine zaj rfl 28 _ rfl w2.heap.size cs 28 rfl l4 _ Tryz.underlying28 rfl 13 zae row.1 ?_)
     refine hj.mono ?_
     rintro e1 w5 ⟨cs5,ok5,rfl,rfl,j,row5,R5,o5⟩
     have l5:=o5.heap l4 (by simp <;> omega)
     have r5:=o5.heap r4 (by simp <;> omega)
     have O5:=O4.then o5
     have z5:=o5.size
     clear hj
     go_wp2_with (refine zad rfl 28 _ _ rfl w2.heap.size cs5 rfl rfl cs 28 l5 13 zae row.1 row5 ?_;intro w6 l6 o6 z6)
     have C6:Ch R w P w2.heap.size lev u RES w6 dp false j er.1 er.2 ex0 cs5 0:=⟨R5.off o6 (by simp <;> omega),l6,row5,o6.heap r5 (by simp <;> omega),O5.trans o6 (by simp <;> omega),Or.inr ⟨rfl,HM.out⟩⟩
     go_roundw
     case rel=>exact ⟨false,j,er.1,er.2,ex0,cs5,0,rfl,C6⟩
     case measure=>simp only [chM];rw [C.rd.pos];omega
end Go.Proofs.YtjlaihekocjggaaGreatDoor
