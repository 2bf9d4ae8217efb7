/- Texts that the others lean on. -/
import Derived.Test.YtjlaihekocjggaaGreatDoorKMD
set_option maxHeartbeats 16000000
namespace Go.Proofs.YtjlaihekocjggaaGreatDoor
open Go.RowKit
set_option maxRecDepth 20000 in
theorem zfb (R:Rc) (dp:Int) (c:List Tk → Rs Ex) (hB:RunOK R 389 dp (brkP R.q c)) {w:World} {i:Nat} {fp fy:Int} (h:Rd R w i dp fp fy) (f:Nf) (m:List Mt) (ns:List Str) (lo:Nat) (hlo:lo ≤ w.heap.size) (hlb:R.b < lo) (hm:Sl w lo f.m m.length (cellsM m)) (hns:Sl w lo f.n ns.length (ns.map tx)) (hfc:f.c = nl) :
  Calls Tryz.prog 425 #[R.ptr,.agg f.arr] w fun e w'=>∃ cs ok,e = .returned (.tuple #[.agg cs,.bool ok]) ∧ OutV R lo w dp (bnd (brkP R.q c (R.T.drop i)) fun x=>.inr (⟨f.k,f.x,f.o,f.v,f.s,m,f.r,f.b1,f.b2,f.b3,f.b4,ns,[x.1]⟩,x.2)) cs ok w':=by
 have hbl:=h.bl
 have s1:Slv f.m:=by obtain ⟨_,_,e,_⟩:=hm;exact ⟨_,_,_,e⟩
 have s2:Slv f.n:=by obtain ⟨_,_,e,_⟩:=hns;exact ⟨_,_,_,e⟩
 obtain ⟨ma,mn,mc,em⟩:=s1
 obtain ⟨na,nn,nc,en⟩:=s2
 obtain ⟨fx,fk,fp0,fo,fv,fs,fm,fr,f1,f2,f3,f4,fn,fc⟩:=f
 dsimp only at *
 subst em en hfc
 go_enter Tryz.func425,Tryz.ntmps425
 have O0:=Off.refl [R.b] w
 have a_1:=bal (Below.refl (w).heap.size (w)) (.cells (ndA fx fk fp0 fo fv fs (.slice ma mn mc) fr f1 f2 f3 f4 (.slice na nn nc) nl) 356)
 have zz_1:=zaf (w) (.cells (ndA fx fk fp0 fo fv fs (.slice ma mn mc) fr f1 f2 f3 f4 (.slice na nn nc) nl) 356)
 have z_2:=a_1.size
 have rd_3:=h.later a_1
 have O_4:=O0.on a_1
 have nd_n1:=zac (w) (.cells (ndA fx fk fp0 fo fv fs (.slice ma mn mc) fr f1 f2 f3 f4 (.slice na nn nc) nl) 356)
 clear h O0 a_1
 have a_5:=bal (Below.refl (w.alloc (.cells (ndA fx fk fp0 fo fv fs (.slice ma mn mc) fr f1 f2 f3 f4 (.slice na nn nc) nl) 356)).heap.size (w.alloc (.cells (ndA fx fk fp0 fo fv fs (.slice ma mn mc) fr f1 f2 f3 f4 (.slice na nn nc) nl) 356))) (.cells zE 28)
 have zz_5:=zaf (w.alloc (.cells (ndA fx fk fp0 fo fv fs (.slice ma mn mc) fr f1 f2 f3 f4 (.slice na nn nc) nl) 356)) (.cells zE 28)
 have z_6:=a_5.size
 have rd_7:=rd_3.later a_5
 have O_8:=O_4.on a_5
 have nd_9:=zab a_5 nd_n1
 have res_n5:=zac (w.alloc (.cells (ndA fx fk fp0 fo fv fs (.slice ma mn mc) fr f1 f2 f3 f4 (.slice na nn nc) nl) 356)) (.cells zE 28)
 clear rd_3 O_4 nd_n1 a_5
 have res2:((w.alloc (.cells (ndA fx fk fp0 fo fv fs (.slice ma mn mc) fr f1 f2 f3 f4 (.slice na nn nc) nl) 356)).alloc (.cells zE 28)).heap[w.heap.size + 1]? = some (.cells zE 28):=by have q:=res_n5;rw [zbd] at q;exact q
 have zs2:w.heap.size + 1 < ((w.alloc (.cells (ndA fx fk fp0 fo fv fs (.slice ma mn mc) fr f1 f2 f3 f4 (.slice na nn nc) nl) 356)).alloc (.cells zE 28)).heap.size:=by rw [zbd,zbd];omega
 clear res_n5
 have hc:=hB _ i fp fy rd_7
 clear hB
 go_upto_region 1 with fail
 generalize (w.alloc (.cells (ndA fx fk fp0 fo fv fs (.slice ma mn mc) fr f1 f2 f3 f4 (.slice na nn nc) nl) 356)).alloc (.cells zE 28) = w1 at *
 have OW:=O_8
 cases hr:brkP R.q c (R.T.drop i) with
 | inr x=>
  rw [hr] at hc
  obtain ⟨e1,l1⟩:=x
  have HR:Hid (brkP R.q c (R.T.drop i) = .inr (e1,l1)):=hr
  clear hr
  go_wp2_with fail
  refine hc.mono ?_
  rintro e w2 ⟨cs,j,fp2,fy2,rfl,hl1,t2,R2,o2⟩
  dsimp only at hl1
  subst hl1
  have row:=t2.row
  clear hc
  have z_10:=o2.size
  have O_11:=O_8.trans o2 (by simp <;> omega)
  have nd_12:=o2.heap nd_9 (by simp <;> omega)
  have res_13:=o2.heap res2 (by simp <;> omega)
  clear rd_7 O_8 nd_9 res2
  go_upto_region 2 with (refine zcm (w:=w2) rfl 28 _ _ rfl zE cs rfl rfl 13 zae rfl row ?_;intro w3 l_w3 b_w3 s_w3)
  have z_14:=b_w3.size
  have rd_15:=R2.later b_w3
  have O_16:=O_11.on b_w3
  have nd_17:=zab b_w3 nd_12
  have res_18:=zab b_w3 res_13
  have t_19:=t2.later b_w3
  clear R2 O_11 nd_12 res_13 t2
  go_upto_region 3 with (first | (refine zaj rfl 28 _ rfl w2.heap.size cs 28 rfl l_w3 _ Tryz.underlying28 rfl 13 zae row.1 ?_) | (refine zmd rfl _ rfl cs rfl row.1 ?_;intro w4 k4 b4 s4) | (refine zdt rfl 26 _ _ rfl w.heap.size 13 (.slice (some ⟨w3.heap.size,0,none⟩) 1 1) rfl rfl (ndA fx fk fp0 fo fv fs (.slice ma mn mc) fr f1 f2 f3 f4 (.slice na nn nc) nl) 356 (zab b4 nd_17) (by simp) zos rfl (ndA fx fk fp0 fo fv fs (.slice ma mn mc) fr f1 f2 f3 f4 (.slice na nn nc) (.slice (some ⟨w3.heap.size,0,none⟩) 1 1)) rfl ?_;intro w5 nd5 o5 z5))
  have z_20:=b4.size
  have rd_21:=rd_15.later b4
  have O_22:=O_16.on b4
  have res_23:=zab b4 res_18
  have t_24:=t_19.later b4
  clear nd_17 l_w3 rd_15 O_16 res_18 t_19
  have z_25:=o5.size
  have rd_26:=rd_21.off o5 (by simp <;> omega)
  have O_27:=O_22.trans o5 (by simp <;> omega)
  have res_28:=o5.heap res_23 (by simp <;> omega)
  have t_29:=Tr.off o5 (by simp <;> omega) _ t_24
  have kd_30:=o5.heap k4 (by simp <;> omega)
  clear rd_21 O_22 res_23 t_24 k4
  go_wp2_with (refine zaj rfl 356 _ rfl w.heap.size (⟨fx,fk,fp0,fo,fv,fs,.slice ma mn mc,fr,f1,f2,f3,f4,.slice na nn nc,.slice (some ⟨w3.heap.size,0,none⟩) 1 1⟩:Nf).arr 356 rfl nd5 _ Tryz.underlying356 rfl 14 zcd rfl ?_)
  refine (zdd (⟨fx,fk,fp0,fo,fv,fs,.slice ma mn mc,fr,f1,f2,f3,f4,.slice na nn nc,.slice (some ⟨w3.heap.size,0,none⟩) 1 1⟩:Nf) ⟨⟨_,_,_,rfl⟩,⟨_,_,_,rfl⟩,⟨_,_,_,rfl⟩⟩ _).mono ?_
  rintro e w6 ⟨rfl,b6⟩
  have z_31:=b6.size
  have rd_32:=rd_26.later b6
  have O_33:=O_27.on b6
  have res_34:=zab b6 res_28
  have t_35:=t_29.later b6
  have kd_36:=zab b6 kd_30
  clear nd5 rd_26 O_27 res_28 t_29 kd_30
  go_wp2_with (refine zad rfl 28 _ _ rfl (w.heap.size + 1) (⟨fx,fk,fp0,fo,fv,fs,.slice ma mn mc,fr,f1,f2,f3,f4,.slice na nn nc,.slice (some ⟨w3.heap.size,0,none⟩) 1 1⟩:Nf).ex rfl rfl _ 28 res_34 13 zae rfl ⟨rfl,rfl⟩ ?_;intro we re oe ze)
  have z_37:=oe.size
  have rd_38:=rd_32.off oe (by simp <;> omega)
  have O_39:=O_33.trans oe (by simp <;> omega)
  have t_40:=Tr.off oe (by simp <;> omega) _ t_35
  have kd_41:=oe.heap kd_36 (by simp <;> omega)
  rw [HR.out]
  exact bodyPost_ret (zai Tryz.results425 _ _ (w.heap.size + 1) 28 (⟨fx,fk,fp0,fo,fv,fs,.slice ma mn mc,fr,f1,f2,f3,f4,.slice na nn nc,.slice (some ⟨w3.heap.size,0,none⟩) 1 1⟩:Nf).ex _ rfl re Tryz.underlying28 rfl 13 zae rfl) rfl ⟨_,true,rfl,rfl,j,fp2,fy2,rfl,Tr.kid1 (hm.off O_39 (by simp <;> omega)) (hns.off O_39 (by simp <;> omega)) kd_41 (by omega) (Tr.lower (by omega) _ t_40),rd_38,O_39⟩
 | inl er=>
  rw [hr] at hc
  have HR:Hid (brkP R.q c (R.T.drop i) = .inl er):=hr
  clear hr
  go_wp2_with fail
  refine hc.mono ?_
  rintro e w2 ⟨cs,j,rfl,row,R2,o2⟩
  clear hc
  have z_10:=o2.size
  have O_11:=O_8.trans o2 (by simp <;> omega)
  have nd_12:=o2.heap nd_9 (by simp <;> omega)
  have res_13:=o2.heap res2 (by simp <;> omega)
  clear rd_7 O_8 nd_9 res2
  go_upto_region 2 with (refine zcm (w:=w2) rfl 28 _ _ rfl zE cs rfl rfl 13 zae rfl row ?_;intro w3 l_w3 b_w3 s_w3)
  have z_14:=b_w3.size
  have rd_15:=R2.later b_w3
  have O_16:=O_11.on b_w3
  have nd_17:=zab b_w3 nd_12
  have res_18:=zab b_w3 res_13
  clear R2 O_11 nd_12 res_13
  go_upto_region 3 with (first | (refine zaj rfl 28 _ rfl w2.heap.size cs 28 rfl l_w3 _ Tryz.underlying28 rfl 13 zae row.1 ?_) | (refine zmd rfl _ rfl cs rfl row.1 ?_;intro w4 k4 b4 s4) | (refine zdt rfl 26 _ _ rfl w.heap.size 13 (.slice (some ⟨w3.heap.size,0,none⟩) 1 1) rfl rfl (ndA fx fk fp0 fo fv fs (.slice ma mn mc) fr f1 f2 f3 f4 (.slice na nn nc) nl) 356 (zab b4 nd_17) (by simp) zos rfl (ndA fx fk fp0 fo fv fs (.slice ma mn mc) fr f1 f2 f3 f4 (.slice na nn nc) (.slice (some ⟨w3.heap.size,0,none⟩) 1 1)) rfl ?_;intro w5 nd5 o5 z5))
  have z_19:=b4.size
  have rd_20:=rd_15.later b4
  have O_21:=O_16.on b4
  have res_22:=zab b4 res_18
  clear nd_17 l_w3 rd_15 O_16 res_18
  have z_23:=o5.size
  have rd_24:=rd_20.off o5 (by simp <;> omega)
  have O_25:=O_21.trans o5 (by simp <;> omega)
  have res_26:=o5.heap res_22 (by simp <;> omega)
  have kd_27:=o5.heap k4 (by simp <;> omega)
  clear rd_20 O_21 res_22 k4
  go_wp2_with (refine zaj rfl 356 _ rfl w.heap.size (⟨fx,fk,fp0,fo,fv,fs,.slice ma mn mc,fr,f1,f2,f3,f4,.slice na nn nc,.slice (some ⟨w3.heap.size,0,none⟩) 1 1⟩:Nf).arr 356 rfl nd5 _ Tryz.underlying356 rfl 14 zcd rfl ?_)
  refine (zdd (⟨fx,fk,fp0,fo,fv,fs,.slice ma mn mc,fr,f1,f2,f3,f4,.slice na nn nc,.slice (some ⟨w3.heap.size,0,none⟩) 1 1⟩:Nf) ⟨⟨_,_,_,rfl⟩,⟨_,_,_,rfl⟩,⟨_,_,_,rfl⟩⟩ _).mono ?_
  rintro e w6 ⟨rfl,b6⟩
  have z_28:=b6.size
  have rd_29:=rd_24.later b6
  have O_30:=O_25.on b6
  have res_31:=zab b6 res_26
  have kd_32:=zab b6 kd_27
  clear nd5 rd_24 O_25 res_26 kd_27
  go_wp2_with (refine zad rfl 28 _ _ rfl (w.heap.size + 1) (⟨fx,fk,fp0,fo,fv,fs,.slice ma mn mc,fr,f1,f2,f3,f4,.slice na nn nc,.slice (some ⟨w3.heap.size,0,none⟩) 1 1⟩:Nf).ex rfl rfl _ 28 res_31 13 zae rfl ⟨rfl,rfl⟩ ?_;intro we re oe ze)
  have z_33:=oe.size
  have rd_34:=rd_29.off oe (by simp <;> omega)
  have O_35:=O_30.trans oe (by simp <;> omega)
  have kd_36:=oe.heap kd_32 (by simp <;> omega)
  rw [HR.out]
  exact bodyPost_ret (zai Tryz.results425 _ _ (w.heap.size + 1) 28 (⟨fx,fk,fp0,fo,fv,fs,.slice ma mn mc,fr,f1,f2,f3,f4,.slice na nn nc,.slice (some ⟨w3.heap.size,0,none⟩) 1 1⟩:Nf).ex _ rfl re Tryz.underlying28 rfl 13 zae rfl) rfl ⟨_,false,rfl,rfl,j,⟨rfl,rfl⟩,rd_34,O_35⟩
theorem OutV.hand2 {R:Rc} {lo:Nat} {w w1 w2 w3:World} {dp:Int} {res:Rs Ex} {cs:Array Value} {ok:Bool} (h:OutV R lo w1 dp res cs ok w2) (hO:Off [R.b] w w1) (hs:w.heap.size < lo) (hb:R.b < w.heap.size) (ho:Off [w.heap.size] w2 w3):OutV R w.heap.size w dp res cs ok w3:=
 ((h.up (lo':=lo) hO (Nat.le_refl _)).off ho (by simp;omega)).up (Off.refl _ _) (by omega)
set_option maxRecDepth 20000 in
theorem call_any (R:Rc) (dp:Int) (c:List Tk → Rs Ex) (hB:RunOK R 389 dp (brkP R.q c)) {w:World} {i:Nat} {fp fy:Int} (h:Rd R w i dp fp fy) (hi:i < R.n):Calls Tryz.prog 411 #[R.ptr] w (OutP R w dp (callP R.q c (R.T.drop i))):=by
 have hbl:=h.bl
 have hhere:=fun W (hW:Rd R W i dp fp fy)=>zdb R hW
 have htk:=fun W (hW:Rd R W i dp fp fy)=>zbo R hW hi
 have HC:Hid (callP R.q c (R.T.drop i) = bnd (brkP R.q c (R.T.drop (i + 1))) fun y=>.inr (⟨3,(hd R.q (R.T.drop i)).p,false,0,(hd R.q (R.T.drop i)).t,[],0,false,false,false,false,[],[y.1]⟩,y.2)):=by
  show _ = _
  unfold callP
  rw [List.tail_drop]
  rfl
 generalize callP R.q c (R.T.drop i) = RES at *
 generalize hd R.q (R.T.drop i) = x at *
 go_enter Tryz.func411,Tryz.ntmps411
 have O0:=Off.refl [R.b] w
 have a_1:=bZ w
 have zz_1:=fZ w
 have z_2:=a_1.size
 have rd_3:=h.later a_1
 have O_4:=O0.on a_1
 have res_n1:=cZ w
 clear h O0 a_1
 go_wp2_with fail
 refine (hhere _ rd_3).mono ?_
 rintro e w1 ⟨rfl,b1⟩
 have z_5:=b1.size
 have rd_6:=rd_3.later b1
 have O_7:=O_4.on b1
 have res_8:=zab b1 res_n1
 clear rd_3 O_4 res_n1
 go_wp2_with fail
 refine (zcf x.p 3 _).mono ?_
 rintro e w2 ⟨rfl,b2⟩
 have z_9:=b2.size
 have rd_10:=rd_6.later b2
 have O_11:=O_7.on b2
 have res_12:=zab b2 res_8
 clear rd_6 O_7 res_8
 have a_13:=bal (Below.refl (w2).heap.size (w2)) (.cells (ndA x.p 3 0 false 0 [] nl 0 false false false false nl nl) 356)
 have zz_13:=zaf (w2) (.cells (ndA x.p 3 0 false 0 [] nl 0 false false false false nl nl) 356)
 have z_14:=a_13.size
 have rd_15:=rd_10.later a_13
 have O_16:=O_11.on a_13
 have res_17:=zab a_13 res_12
 have nd_n13:=zac (w2) (.cells (ndA x.p 3 0 false 0 [] nl 0 false false false false nl nl) 356)
 clear rd_10 O_11 res_12 a_13
 go_upto_region 2 with fail
 generalize w2.alloc (.cells (ndA x.p 3 0 false 0 [] nl 0 false false false false nl nl) 356) = w3 at *
 have hf2:=fld2 x
 go_wp2_with fail
 refine (htk _ rd_15).mono ?_
 rintro e w4 ⟨rfl,R4,o4⟩
 have z_18:=o4.size
 have O_19:=O_16.trans o4 (by simp <;> omega)
 have res_20:=o4.heap res_17 (by simp <;> omega)
 have nd_21:=o4.heap nd_n13 (by simp <;> omega)
 clear rd_15 O_16 res_17 nd_n13
 go_upto_region 3 with (refine zdt rfl 9 _ _ rfl w2.heap.size 5 (tx x.t) rfl rfl (ndA x.p 3 0 false 0 [] nl 0 false false false false nl nl) 356 nd_21 (by simp) inf9 rfl (ndA x.p 3 0 false 0 x.t nl 0 false false false false nl nl) rfl ?_;intro w5 nd5 o5 z5)
 clear hf2 z5
 have z_22:=o5.size
 have rd_23:=R4.off o5 (by simp <;> omega)
 have O_24:=O_19.trans o5 (by simp <;> omega)
 have res_25:=o5.heap res_20 (by simp <;> omega)
 clear nd_21 R4 O_19 res_20
 have ha:=zfb R dp c hB rd_23 (⟨x.p,3,0,false,0,x.t,nl,0,false,false,false,false,nl,nl⟩:Nf) [] [] w3.heap.size (by omega) (by omega) (Sl.nil _ _ _) (Sl.nil _ _ _) rfl
 clear hB
 have OV:=O_24
 go_wp2_with (refine zaj rfl 356 _ rfl w2.heap.size (⟨x.p,3,0,false,0,x.t,nl,0,false,false,false,false,nl,nl⟩:Nf).arr 356 rfl nd5 _ Tryz.underlying356 rfl 14 zcd rfl ?_)
 refine ha.mono ?_
 rintro e wv ⟨cs,ok,rfl,V⟩
 have row:=V.row
 clear ha
 have z_26:=V.heap.size
 have res_27:=V.heap.heap res_25 (by simp <;> omega)
 clear rd_23 nd5 O_24 res_25
 go_wp2_with (refine zad rfl 28 _ _ rfl w.heap.size cs rfl rfl _ 28 res_27 13 zae rfl row ?_;intro we re oe ze)
 rw [HC.out]
 exact bodyPost_ret (zai Tryz.results411 _ _ w.heap.size 28 cs _ rfl re Tryz.underlying28 rfl 13 zae row.1) rfl (V.hand2 OV (by omega) hbl oe).p
set_option maxRecDepth 20000 in
theorem zir (R:Rc) (dp:Int) (c:List Tk → Rs Ex) (hB:RunOK R 389 dp (brkP R.q c)) {w:World} {i:Nat} {fp fy:Int} (h:Rd R w i dp fp fy) (hi:i < R.n):Calls Tryz.prog 410 #[R.ptr] w (OutP R w dp (aggP R.q c (R.T.drop i))):=by
 have hbl:=h.bl
 have hhere:=fun W (hW:Rd R W i dp fp fy)=>zdb R hW
 have htk:=fun W (hW:Rd R W i dp fp fy)=>zbo R hW hi
 have hah:=fun W (hW:Rd R W (i + 1) dp fp fy)=>zao R hW
 have HC:Hid (aggP R.q c (R.T.drop i) = bnd (grpP R.q (R.T.drop (i + 1))) fun z=>bnd (brkP R.q c z.2) fun y=>.inr (⟨4,(hd R.q (R.T.drop i)).p,false,0,(hd R.q (R.T.drop i)).t,[],0,z.1.on,z.1.ig,false,false,z.1.ns,[y.1]⟩,y.2)):=by
  show _ = _
  unfold aggP
  rw [List.tail_drop]
  rfl
 generalize aggP R.q c (R.T.drop i) = RES at *
 generalize hd R.q (R.T.drop i) = x at *
 by_cases hk:(hd R.q (R.T.drop (i + 1))).k = 1
 ·
  have hk1:((hd R.q (R.T.drop (i + 1))).k == 1) = true:=beq_iff_eq.2 hk
  have hi1:∀ W,Rd R W (i + 1) dp fp fy → i + 1 < R.n:=fun W hW=>zih hW (by rw [hk];decide)
  have htk1:=fun W (hW:Rd R W (i + 1) dp fp fy)=>zbo R hW (hi1 W hW)
  have HG:Hid (grpP R.q (R.T.drop (i + 1)) = bnd (nmP R.q (R.T.drop (i + 2))) fun z=>.inr (⟨(hd R.q (R.T.drop (i + 1))).t == [98,121],(hd R.q (R.T.drop (i + 1))).t == [119,105,116,104,111,117,116],z.1⟩,z.2)):=by
   show _ = _
   unfold grpP
   rw [if_neg (fun e=>e hk),List.tail_drop]
   rfl
  clear hk hi1
  generalize hd R.q (R.T.drop (i + 1)) = y at *
  go_enter Tryz.func410,Tryz.ntmps410
  have O0:=Off.refl [R.b] w
  have a_1:=bZ w
  have zz_1:=fZ w
  have z_2:=a_1.size
  have rd_3:=h.later a_1
  have O_4:=O0.on a_1
  have res_n1:=cZ w
  clear h O0 a_1
  go_wp2_with fail
  refine (hhere _ rd_3).mono ?_
  rintro e w1 ⟨rfl,b1⟩
  have z_5:=b1.size
  have rd_6:=rd_3.later b1
  have O_7:=O_4.on b1
  have res_8:=zab b1 res_n1
  clear rd_3 O_4 res_n1
  go_wp2_with fail
  refine (zcf x.p 4 _).mono ?_
  rintro e w2 ⟨rfl,b2⟩
  have z_9:=b2.size
  have rd_10:=rd_6.later b2
  have O_11:=O_7.on b2
  have res_12:=zab b2 res_8
  clear rd_6 O_7 res_8
  have a_13:=bal (Below.refl (w2).heap.size (w2)) (.cells (ndA x.p 4 0 false 0 [] nl 0 false false false false nl nl) 356)
  have zz_13:=zaf (w2) (.cells (ndA x.p 4 0 false 0 [] nl 0 false false false false nl nl) 356)
  have z_14:=a_13.size
  have rd_15:=rd_10.later a_13
  have O_16:=O_11.on a_13
  have res_17:=zab a_13 res_12
  have nd_n13:=zac (w2) (.cells (ndA x.p 4 0 false 0 [] nl 0 false false false false nl nl) 356)
  clear rd_10 O_11 res_12 a_13
  go_upto_region 2 with fail
  generalize w2.alloc (.cells (ndA x.p 4 0 false 0 [] nl 0 false false false false nl nl) 356) = w3 at *
  have hf2:=fld2 x
  go_wp2_with fail
  refine (htk _ rd_15).mono ?_
  rintro e w4 ⟨rfl,R4,o4⟩
  have z_18:=o4.size
  have O_19:=O_16.trans o4 (by simp <;> omega)
  have res_20:=o4.heap res_17 (by simp <;> omega)
  have nd_21:=o4.heap nd_n13 (by simp <;> omega)
  clear rd_15 O_16 res_17 nd_n13
  go_upto_region 3 with (refine zdt rfl 9 _ _ rfl w2.heap.size 5 (tx x.t) rfl rfl (ndA x.p 4 0 false 0 [] nl 0 false false false false nl nl) 356 nd_21 (by simp) inf9 rfl (ndA x.p 4 0 false 0 x.t nl 0 false false false false nl nl) rfl ?_;intro w5 nd5 o5 z5)
  clear hf2 z5
  have z_22:=o5.size
  have rd_23:=R4.off o5 (by simp <;> omega)
  have O_24:=O_19.trans o5 (by simp <;> omega)
  have res_25:=o5.heap res_20 (by simp <;> omega)
  clear nd_21 R4 O_19 res_20
  go_wp2_with fail
  refine (hah _ rd_23).mono ?_
  rintro e w6 ⟨rfl,b6⟩
  have z_26:=b6.size
  have rd_27:=rd_23.later b6
  have O_28:=O_24.on b6
  have res_29:=zab b6 res_25
  have nd_30:=zab b6 nd5
  clear rd_23 O_24 res_25 nd5
  have a_31:=bal (Below.refl (w6).heap.size (w6)) (.cells (tcs y) 161)
  have zz_31:=zaf (w6) (.cells (tcs y) 161)
  have z_32:=a_31.size
  have rd_33:=rd_27.later a_31
  have O_34:=O_28.on a_31
  have res_35:=zab a_31 res_29
  have nd_36:=zab a_31 nd_30
  have tk_n31:=zac (w6) (.cells (tcs y) 161)
  clear rd_27 O_28 res_29 nd_30 a_31
  go_upto_region 4 with fail
  generalize w6.alloc (.cells (tcs y) 161) = w7 at *
  have c0:=(zaa tk_n31 0).trans rfl
  go_upto_region 5 with fail
  clear c0
  go_wp2_with fail
  refine (htk1 _ rd_33).mono ?_
  rintro e w8 ⟨rfl,R8,o8⟩
  have z_37:=o8.size
  have O_38:=O_34.trans o8 (by simp <;> omega)
  have res_39:=o8.heap res_35 (by simp <;> omega)
  have nd_40:=o8.heap nd_36 (by simp <;> omega)
  have tk_41:=o8.heap tk_n31 (by simp <;> omega)
  clear rd_33 O_34 res_35 nd_36 tk_n31
  go_upto_region 6 with fail
  have dr:=zag w8
  have z_42:=dr.size
  have rd_43:=R8.later dr
  have O_44:=O_38.on dr
  have res_45:=zab dr res_39
  have nd_46:=zab dr nd_40
  have tk_47:=zab dr tk_41
  have S9:HeldX w6.heap.size y.t (World.drew w8):=(zaa tk_47 2).trans rfl
  refine wp_region_noPanic ?_
  refine wp_region_held_drew (S:=HeldX w6.heap.size y.t) (by kernel_rfl) ?_ (fun _=>?_)
  ·
   exact S9
  clear R8 O_38 res_39 nd_40 tk_41 dr
  generalize w8.drew = w9 at *
  generalize hq1:(y.t == [98,121]) = q1 at *
  generalize hq2:(y.t == [119,105,116,104,111,117,116]) = q2 at *
  refine tk 0 21 (.pointer (some ⟨w6.heap.size,2,none⟩)) rfl (fun W hSw=>by go_simp) S9 ?_
  simp only [Act.put,pB,pC,pD]
  refine tk 1 22 (tx y.t) rfl (fun W hSw=>by (have s1:World.cell? W ⟨w6.heap.size,2,none⟩ = some (tx y.t):=hSw;go_simp)) S9 ?_
  simp only [Act.put,pB,pC,pD]
  refine tk 2 23 (.bool q1) rfl (fun W hSw=>by go_simp) S9 ?_
  simp only [Act.put,pB,pC,pD]
  refine tk 3 24 (.pointer (some ⟨w6.heap.size,2,none⟩)) rfl (fun W hSw=>by go_simp) S9 ?_
  simp only [Act.put,pB,pC,pD]
  refine tk 4 25 (tx y.t) rfl (fun W hSw=>by (have s1:World.cell? W ⟨w6.heap.size,2,none⟩ = some (tx y.t):=hSw;go_simp)) S9 ?_
  simp only [Act.put,pB,pC,pD]
  refine tk 5 26 (.bool q2) rfl (fun W hSw=>by go_simp) S9 ?_
  simp only [Act.put,pB,pC,pD]
  refine tk 6 27 (.pointer (some ⟨w2.heap.size,1,none⟩)) rfl (fun W hSw=>by go_simp) S9 ?_
  simp only [Act.put,pB,pC,pD]
  refine tk 7 28 (.pointer (some ⟨w2.heap.size,8,none⟩)) rfl (fun W hSw=>by go_simp) S9 ?_
  simp only [Act.put,pB,pC,pD]
  refine wpAnyH_ready (rs:=[8]) (by kernel_rfl) (by simp) ?_
  refine aR rfl fun K hK=>?_
  refine zbv 4 _ _ none rfl rfl (by rfl) w2.heap.size 8 (.bool q1) rfl rfl (ndA x.p 4 0 false 0 x.t nl 0 false false false false nl nl) 356 nd_46 (by simp) inf4 rfl (ndA x.p 4 0 false 0 x.t nl 0 q1 false false false nl nl) rfl ?_
  intro w10 nd10 o10 z10
  have z_48:=o10.size
  have rd_49:=rd_43.off o10 (by simp <;> omega)
  have O_50:=O_44.trans o10 (by simp <;> omega)
  have res_51:=o10.heap res_45 (by simp <;> omega)
  have tk_52:=o10.heap tk_47 (by simp <;> omega)
  have S10:HeldX w6.heap.size y.t w10:=(zaa tk_52 2).trans rfl
  refine hK.out _ _ ?_ (fun _=>?_)
  ·
   exact S10
  clear hK K
  clear nd_46 rd_43 O_44 res_45 tk_47 S9 z10
  refine tk 9 29 (.pointer (some ⟨w2.heap.size,1,none⟩)) rfl (fun W hSw=>by go_simp) S10 ?_
  simp only [Act.put,pB,pC,pD]
  refine tk 10 30 (.pointer (some ⟨w2.heap.size,9,none⟩)) rfl (fun W hSw=>by go_simp) S10 ?_
  simp only [Act.put,pB,pC,pD]
  refine wpAnyH_ready (rs:=[11]) (by kernel_rfl) (by simp) ?_
  refine aR rfl fun K hK=>?_
  refine zbv 4 _ _ none rfl rfl (by rfl) w2.heap.size 9 (.bool q2) rfl rfl (ndA x.p 4 0 false 0 x.t nl 0 q1 false false false nl nl) 356 nd10 (by simp) inf4 rfl (ndA x.p 4 0 false 0 x.t nl 0 q1 q2 false false nl nl) rfl ?_
  intro w11 nd11 o11 z11
  have z_53:=o11.size
  have rd_54:=rd_49.off o11 (by simp <;> omega)
  have O_55:=O_50.trans o11 (by simp <;> omega)
  have res_56:=o11.heap res_51 (by simp <;> omega)
  have tk_57:=o11.heap tk_52 (by simp <;> omega)
  have S11:HeldX w6.heap.size y.t w11:=(zaa tk_57 2).trans rfl
  refine hK.out _ _ ?_ (fun _=>?_)
  ·
   exact S11
  clear hK K
  clear nd10 rd_49 O_50 res_51 tk_52 tk_57 S10 S11 z11
  refine wpAnyH_done (by kernel_rfl) ?_ _
  refine NoPanic.normal ?_
  have hnm:=zjl R (nb:=w2.heap.size) (f:=(⟨x.p,4,0,false,0,x.t,nl,0,q1,q2,false,false,nl,nl⟩:Nf)) rd_54 nd11 (by omega) rfl
  have O11:=O_55
  have res11:=res_56
  cases hr:nmP R.q (R.T.drop (i + 2)) with
  | inr z=>
   obtain ⟨ns,l2⟩:=z
   rw [hr] at hnm HG
   have HX:Hid (RES = bnd (brkP R.q c l2) fun y=>.inr (⟨4,x.p,false,0,x.t,[],0,q1,q2,false,false,ns,[y.1]⟩,y.2)):=by
    show _ = _
    rw [HC.out,HG.out]
    rfl
   clear HC HG hr
   go_wp2_with fail
   refine hnm.mono ?_
   rintro e w12 ⟨an,n,cn,j,fp2,fy2,rfl,hyl,R12,nd12,sl12,o12⟩
   dsimp only at hyl
   subst hyl
   clear hnm
   have z12:=o12.size
   have O12:=O11.trans o12 (by simp <;> omega)
   have res12:=o12.heap res11 (by simp <;> omega)
   have ha:=zfb R dp c hB R12 (⟨x.p,4,0,false,0,x.t,nl,0,q1,q2,false,false,.slice an n cn,nl⟩:Nf) [] ns w11.heap.size (by omega) (by omega) (Sl.nil _ _ _) sl12 rfl
   clear hB
   have OV:=O12
   go_wp2_with (refine zaj rfl 356 _ rfl w2.heap.size (⟨x.p,4,0,false,0,x.t,nl,0,q1,q2,false,false,.slice an n cn,nl⟩:Nf).arr 356 rfl nd12 _ Tryz.underlying356 rfl 14 zcd rfl ?_)
   refine ha.mono ?_
   rintro e wv ⟨cs,ok,rfl,V⟩
   have row:=V.row
   clear ha
   have z_58:=V.heap.size
   have res_59:=V.heap.heap res12 (by simp <;> omega)
   go_wp2_with (refine zad rfl 28 _ _ rfl w.heap.size cs rfl rfl _ 28 res_59 13 zae rfl row ?_;intro we re oe ze)
   rw [HX.out]
   exact bodyPost_ret (zai Tryz.results410 _ _ w.heap.size 28 cs _ rfl re Tryz.underlying28 rfl 13 zae row.1) rfl (V.hand2 OV (by omega) hbl oe).p
  | inl er=>
   rw [hr] at hnm HG
   have HX:Hid (RES = .inl er):=by show _ = _;rw [HC.out,HG.out];rfl
   clear HC HG hr
   go_wp2_with fail
   refine hnm.mono ?_
   rintro e w12 ⟨an,n,cn,j,rfl,R12,nd12,o12⟩
   clear hnm
   have z12:=o12.size
   have O12:=O11.trans o12 (by simp <;> omega)
   have res12:=o12.heap res11 (by simp <;> omega)
   go_wp2_with (refine zad rfl 28 _ _ rfl w.heap.size zE rfl rfl _ 28 res12 13 zae rfl rowZ ?_;intro we re oe ze)
   have z_58:=oe.size
   have rd_59:=R12.off oe (by simp <;> omega)
   have O_60:=O12.trans oe (by simp <;> omega)
   rw [HX.out]
   exact bodyPost_ret (zai Tryz.results410 _ _ w.heap.size 28 zE _ rfl re Tryz.underlying28 rfl 13 zae rfl) rfl ⟨zE,j,rfl,rowZ,rd_59,O_60⟩
 have hk1:((hd R.q (R.T.drop (i + 1))).k == 1) = false:=beq_eq_false_iff_ne.2 hk
 have HX:Hid (RES = bnd (brkP R.q c (R.T.drop (i + 1))) fun y=>.inr (⟨4,x.p,false,0,x.t,[],0,false,false,false,false,[],[y.1]⟩,y.2)):=by
  show _ = _
  rw [HC.out]
  unfold grpP
  rw [if_pos hk]
  rfl
 clear hk HC
 generalize hd R.q (R.T.drop (i + 1)) = y at *
 go_enter Tryz.func410,Tryz.ntmps410
 have O0:=Off.refl [R.b] w
 have a_1:=bZ w
 have zz_1:=fZ w
 have z_2:=a_1.size
 have rd_3:=h.later a_1
 have O_4:=O0.on a_1
 have res_n1:=cZ w
 clear h O0 a_1
 go_wp2_with fail
 refine (hhere _ rd_3).mono ?_
 rintro e w1 ⟨rfl,b1⟩
 have z_5:=b1.size
 have rd_6:=rd_3.later b1
 have O_7:=O_4.on b1
 have res_8:=zab b1 res_n1
 clear rd_3 O_4 res_n1
 go_wp2_with fail
 refine (zcf x.p 4 _).mono ?_
 rintro e w2 ⟨rfl,b2⟩
 have z_9:=b2.size
 have rd_10:=rd_6.later b2
 have O_11:=O_7.on b2
 have res_12:=zab b2 res_8
 clear rd_6 O_7 res_8
 have a_13:=bal (Below.refl (w2).heap.size (w2)) (.cells (ndA x.p 4 0 false 0 [] nl 0 false false false false nl nl) 356)
 have zz_13:=zaf (w2) (.cells (ndA x.p 4 0 false 0 [] nl 0 false false false false nl nl) 356)
 have z_14:=a_13.size
 have rd_15:=rd_10.later a_13
 have O_16:=O_11.on a_13
 have res_17:=zab a_13 res_12
 have nd_n13:=zac (w2) (.cells (ndA x.p 4 0 false 0 [] nl 0 false false false false nl nl) 356)
 clear rd_10 O_11 res_12 a_13
 go_upto_region 2 with fail
 generalize w2.alloc (.cells (ndA x.p 4 0 false 0 [] nl 0 false false false false nl nl) 356) = w3 at *
 have hf2:=fld2 x
 go_wp2_with fail
 refine (htk _ rd_15).mono ?_
 rintro e w4 ⟨rfl,R4,o4⟩
 have z_18:=o4.size
 have O_19:=O_16.trans o4 (by simp <;> omega)
 have res_20:=o4.heap res_17 (by simp <;> omega)
 have nd_21:=o4.heap nd_n13 (by simp <;> omega)
 clear rd_15 O_16 res_17 nd_n13
 go_upto_region 3 with (refine zdt rfl 9 _ _ rfl w2.heap.size 5 (tx x.t) rfl rfl (ndA x.p 4 0 false 0 [] nl 0 false false false false nl nl) 356 nd_21 (by simp) inf9 rfl (ndA x.p 4 0 false 0 x.t nl 0 false false false false nl nl) rfl ?_;intro w5 nd5 o5 z5)
 clear hf2 z5
 have z_22:=o5.size
 have rd_23:=R4.off o5 (by simp <;> omega)
 have O_24:=O_19.trans o5 (by simp <;> omega)
 have res_25:=o5.heap res_20 (by simp <;> omega)
 clear nd_21 R4 O_19 res_20
 go_wp2_with fail
 refine (hah _ rd_23).mono ?_
 rintro e w6 ⟨rfl,b6⟩
 have z_26:=b6.size
 have rd_27:=rd_23.later b6
 have O_28:=O_24.on b6
 have res_29:=zab b6 res_25
 have nd_30:=zab b6 nd5
 clear rd_23 O_24 res_25 nd5
 have a_31:=bal (Below.refl (w6).heap.size (w6)) (.cells (tcs y) 161)
 have zz_31:=zaf (w6) (.cells (tcs y) 161)
 have z_32:=a_31.size
 have rd_33:=rd_27.later a_31
 have O_34:=O_28.on a_31
 have res_35:=zab a_31 res_29
 have nd_36:=zab a_31 nd_30
 have tk_n31:=zac (w6) (.cells (tcs y) 161)
 clear rd_27 O_28 res_29 nd_30 a_31
 go_upto_region 4 with fail
 generalize w6.alloc (.cells (tcs y) 161) = w7 at *
 have c0:=(zaa tk_n31 0).trans rfl
 have ha:=zfb R dp c hB rd_33 (⟨x.p,4,0,false,0,x.t,nl,0,false,false,false,false,nl,nl⟩:Nf) [] [] w3.heap.size (by omega) (by omega) (Sl.nil _ _ _) (Sl.nil _ _ _) rfl
 clear hB
 have OV:=O_34
 go_wp2_with (refine zaj rfl 356 _ rfl w2.heap.size (⟨x.p,4,0,false,0,x.t,nl,0,false,false,false,false,nl,nl⟩:Nf).arr 356 rfl nd_36 _ Tryz.underlying356 rfl 14 zcd rfl ?_)
 refine ha.mono ?_
 rintro e wv ⟨cs,ok,rfl,V⟩
 have row:=V.row
 clear ha
 have z_37:=V.heap.size
 have res_38:=V.heap.heap res_35 (by simp <;> omega)
 clear tk_n31 rd_33 nd_36 O_34 res_35
 go_wp2_with (refine zad rfl 28 _ _ rfl w.heap.size cs rfl rfl _ 28 res_38 13 zae rfl row ?_;intro we re oe ze)
 rw [HX.out]
 exact bodyPost_ret (zai Tryz.results410 _ _ w.heap.size 28 cs _ rfl re Tryz.underlying28 rfl 13 zae row.1) rfl (V.hand2 OV (by omega) hbl oe).p
set_option maxRecDepth 20000 in
theorem named_any (R:Rc) (dp:Int) (c:List Tk → Rs Ex) (hB:RunOK R 389 dp (brkP R.q c)) {w:World} {i:Nat} {fp fy:Int} (h:Rd R w i dp fp fy) (hi:i < R.n):Calls Tryz.prog 388 #[R.ptr,tx (hd R.q (R.T.drop i)).t] w (OutP R w dp (namP R.q c (R.T.drop i))):=by
 have hbl:=h.bl
 have hah:=fun W (hW:Rd R W i dp fp fy)=>zhq R hW
 have hsg:=fun W=>zbb (hd R.q (R.T.drop (i + 1))) [40] W
 have hgr:=fun W=>isGrp_any (hd R.q (R.T.drop (i + 1))).t W
 have hag:=fun W=>zgc (hd R.q (R.T.drop i)).t W
 have hmo:=fun W=>zga (hd R.q (R.T.drop i)).t W
 have kag:=fun W (hW:Rd R W i dp fp fy)=>zir R dp c hB hW hi
 have kca:=fun W (hW:Rd R W i dp fp fy)=>call_any R dp c hB hW hi
 have kse:=fun W (hW:Rd R W i dp fp fy)=>zfe R hW
 have krf:=fun W (hW:Rd R W i dp fp fy)=>zba R 71 hW
 have HC:Hid (namP R.q c (R.T.drop i) = if (isAggB (hd R.q (R.T.drop i)).t && (sg (hd R.q (R.T.drop (i + 1))) [40] || ((hd R.q (R.T.drop (i + 1))).k == 1 && isGrpB (hd R.q (R.T.drop (i + 1))).t))) = true then aggP R.q c (R.T.drop i)
  else if (isModB (hd R.q (R.T.drop i)).t && sg (hd R.q (R.T.drop (i + 1))) [40]) = true then .inl ((hd R.q (R.T.drop i)).p,71)
  else if sg (hd R.q (R.T.drop (i + 1))) [40] = true then callP R.q c (R.T.drop i)
  else selP R.q (R.T.drop i)):=by
  show _ = _
  unfold namP bad
  rw [List.tail_drop]
 generalize namP R.q c (R.T.drop i) = RES at *
 generalize aggP R.q c (R.T.drop i) = RA at *
 generalize callP R.q c (R.T.drop i) = RC at *
 generalize selP R.q (R.T.drop i) = RS at *
 clear hB
 generalize hd R.q (R.T.drop (i + 1)) = b at *
 generalize hd R.q (R.T.drop i) = x at *
 generalize sg b [40] = op at *
 generalize isGrpB b.t = gr at *
 generalize hA:isAggB x.t = A at *
 generalize hM:isModB x.t = M at *
 clear hA hM
 generalize hg1:(b.k == 1) = g1 at *
 cases op with
 | true=>
  cases g1 with
  | true=>
   cases gr with
   | true=>
    cases A with
    | true=>
     have O0:=Off.refl [R.b] w
     have HX:Hid (RES = RA):=HC
     clear HC
     go_enter Tryz.func388,Tryz.ntmps388
     have a_1:=bZ w
     have zz_1:=fZ w
     have z_2:=a_1.size
     have rd_3:=h.later a_1
     have O_4:=O0.on a_1
     have res_n1:=cZ w
     clear h O0 a_1
     go_wp2_with fail
     refine (hah _ rd_3).mono ?_
     rintro e w1 ⟨rfl,b1⟩
     have z_5:=b1.size
     have rd_6:=rd_3.later b1
     have O_7:=O_4.on b1
     have res_8:=zab b1 res_n1
     clear rd_3 O_4 res_n1
     have a_9:=bal (Below.refl (w1).heap.size (w1)) (.cells (tcs b) 161)
     have zz_9:=zaf (w1) (.cells (tcs b) 161)
     have z_10:=a_9.size
     have rd_11:=rd_6.later a_9
     have O_12:=O_7.on a_9
     have res_13:=zab a_9 res_8
     have tk_n9:=zac (w1) (.cells (tcs b) 161)
     clear rd_6 O_7 res_8 a_9
     go_upto_region 2 with fail
     generalize w1.alloc (.cells (tcs b) 161) = w2 at *
     go_wp2_with (refine zaj rfl 161 _ rfl w1.heap.size (tcs b) 161 rfl tk_n9 _ Tryz.underlying161 rfl 6 zbn rfl ?_)
     refine (hsg _).mono ?_
     rintro e w3 ⟨rfl,b3⟩
     have z_14:=b3.size
     have rd_15:=rd_11.later b3
     have O_16:=O_12.on b3
     have res_17:=zab b3 res_13
     have tk_18:=zab b3 tk_n9
     clear rd_11 O_12 res_13 tk_n9
     have c0:=(zaa tk_18 0).trans rfl
     have c2:=(zaa tk_18 2).trans rfl
     go_wp2_with fail
     refine (hgr _).mono ?_
     rintro e w4 ⟨rfl,rfl⟩
     go_wp2_with fail
     refine (hag _).mono ?_
     rintro e w4 ⟨rfl,rfl⟩
     have OV:=O_16
     go_wp2_with fail
     refine (kag _ rd_15).mono ?_
     intro e wv hq
     obtain ⟨cs,ok,rfl,V⟩:=hq.v
     clear hq
     have row:=V.row
     have z_19:=V.heap.size
     have res_20:=V.heap.heap res_17 (by simp <;> omega)
     clear tk_18 rd_15 O_16 res_17
     go_wp2_with (refine zad rfl 28 _ _ rfl w.heap.size cs rfl rfl _ 28 res_20 13 zae rfl row ?_;intro we re oe ze)
     rw [HX.out]
     exact bodyPost_ret (zai Tryz.results388 _ _ w.heap.size 28 cs _ rfl re Tryz.underlying28 rfl 13 zae row.1) rfl (V.hand2 OV (by omega) hbl oe).p
    | false=>
     cases M with
     | true=>
      have O0:=Off.refl [R.b] w
      have HX:Hid (RES = .inl (x.p,71)):=HC
      clear HC
      go_enter Tryz.func388,Tryz.ntmps388
      have a_1:=bZ w
      have zz_1:=fZ w
      have z_2:=a_1.size
      have rd_3:=h.later a_1
      have O_4:=O0.on a_1
      have res_n1:=cZ w
      clear h O0 a_1
      go_wp2_with fail
      refine (hah _ rd_3).mono ?_
      rintro e w1 ⟨rfl,b1⟩
      have z_5:=b1.size
      have rd_6:=rd_3.later b1
      have O_7:=O_4.on b1
      have res_8:=zab b1 res_n1
      clear rd_3 O_4 res_n1
      have a_9:=bal (Below.refl (w1).heap.size (w1)) (.cells (tcs b) 161)
      have zz_9:=zaf (w1) (.cells (tcs b) 161)
      have z_10:=a_9.size
      have rd_11:=rd_6.later a_9
      have O_12:=O_7.on a_9
      have res_13:=zab a_9 res_8
      have tk_n9:=zac (w1) (.cells (tcs b) 161)
      clear rd_6 O_7 res_8 a_9
      go_upto_region 2 with fail
      generalize w1.alloc (.cells (tcs b) 161) = w2 at *
      go_wp2_with (refine zaj rfl 161 _ rfl w1.heap.size (tcs b) 161 rfl tk_n9 _ Tryz.underlying161 rfl 6 zbn rfl ?_)
      refine (hsg _).mono ?_
      rintro e w3 ⟨rfl,b3⟩
      have z_14:=b3.size
      have rd_15:=rd_11.later b3
      have O_16:=O_12.on b3
      have res_17:=zab b3 res_13
      have tk_18:=zab b3 tk_n9
      clear rd_11 O_12 res_13 tk_n9
      have c0:=(zaa tk_18 0).trans rfl
      have c2:=(zaa tk_18 2).trans rfl
      go_wp2_with fail
      refine (hgr _).mono ?_
      rintro e w4 ⟨rfl,rfl⟩
      go_wp2_with fail
      refine (hag _).mono ?_
      rintro e w4 ⟨rfl,rfl⟩
      go_wp2_with fail
      refine (hmo _).mono ?_
      rintro e w4 ⟨rfl,rfl⟩
      go_wp2_with fail
      refine (krf _ rd_15).mono ?_
      rintro e w4 ⟨rfl,R4,o4⟩
      have z_19:=o4.size
      have O_20:=O_16.trans o4 (by simp <;> omega)
      have res_21:=o4.heap res_17 (by simp <;> omega)
      clear tk_18 rd_15 O_16 res_17
      go_wp2_with (refine zad rfl 28 _ _ rfl w.heap.size zE rfl rfl _ 28 res_21 13 zae rfl rowZ ?_;intro we re oe ze)
      have z_22:=oe.size
      have rd_23:=R4.off oe (by simp <;> omega)
      have O_24:=O_20.trans oe (by simp <;> omega)
      rw [HX.out]
      exact bodyPost_ret (zai Tryz.results388 _ _ w.heap.size 28 zE _ rfl re Tryz.underlying28 rfl 13 zae rfl) rfl ⟨zE,i,rfl,rowZ,rd_23,O_24⟩
     | false=>
      have O0:=Off.refl [R.b] w
      have HX:Hid (RES = RC):=HC
      clear HC
      go_enter Tryz.func388,Tryz.ntmps388
      have a_1:=bZ w
      have zz_1:=fZ w
      have z_2:=a_1.size
      have rd_3:=h.later a_1
      have O_4:=O0.on a_1
      have res_n1:=cZ w
      clear h O0 a_1
      go_wp2_with fail
      refine (hah _ rd_3).mono ?_
      rintro e w1 ⟨rfl,b1⟩
      have z_5:=b1.size
      have rd_6:=rd_3.later b1
      have O_7:=O_4.on b1
      have res_8:=zab b1 res_n1
      clear rd_3 O_4 res_n1
      have a_9:=bal (Below.refl (w1).heap.size (w1)) (.cells (tcs b) 161)
      have zz_9:=zaf (w1) (.cells (tcs b) 161)
      have z_10:=a_9.size
      have rd_11:=rd_6.later a_9
      have O_12:=O_7.on a_9
      have res_13:=zab a_9 res_8
      have tk_n9:=zac (w1) (.cells (tcs b) 161)
      clear rd_6 O_7 res_8 a_9
      go_upto_region 2 with fail
      generalize w1.alloc (.cells (tcs b) 161) = w2 at *
      go_wp2_with (refine zaj rfl 161 _ rfl w1.heap.size (tcs b) 161 rfl tk_n9 _ Tryz.underlying161 rfl 6 zbn rfl ?_)
      refine (hsg _).mono ?_
      rintro e w3 ⟨rfl,b3⟩
      have z_14:=b3.size
      have rd_15:=rd_11.later b3
      have O_16:=O_12.on b3
      have res_17:=zab b3 res_13
      have tk_18:=zab b3 tk_n9
      clear rd_11 O_12 res_13 tk_n9
      have c0:=(zaa tk_18 0).trans rfl
      have c2:=(zaa tk_18 2).trans rfl
      go_wp2_with fail
      refine (hgr _).mono ?_
      rintro e w4 ⟨rfl,rfl⟩
      go_wp2_with fail
      refine (hag _).mono ?_
      rintro e w4 ⟨rfl,rfl⟩
      go_wp2_with fail
      refine (hmo _).mono ?_
      rintro e w4 ⟨rfl,rfl⟩
      have OV:=O_16
      go_wp2_with fail
      refine (kca _ rd_15).mono ?_
      intro e wv hq
      obtain ⟨cs,ok,rfl,V⟩:=hq.v
      clear hq
      have row:=V.row
      have z_19:=V.heap.size
      have res_20:=V.heap.heap res_17 (by simp <;> omega)
      clear tk_18 rd_15 O_16 res_17
      go_wp2_with (refine zad rfl 28 _ _ rfl w.heap.size cs rfl rfl _ 28 res_20 13 zae rfl row ?_;intro we re oe ze)
      rw [HX.out]
      exact bodyPost_ret (zai Tryz.results388 _ _ w.heap.size 28 cs _ rfl re Tryz.underlying28 rfl 13 zae row.1) rfl (V.hand2 OV (by omega) hbl oe).p
   | false=>
    cases A with
    | true=>
     have O0:=Off.refl [R.b] w
     have HX:Hid (RES = RA):=HC
     clear HC
     go_enter Tryz.func388,Tryz.ntmps388
     have a_1:=bZ w
     have zz_1:=fZ w
     have z_2:=a_1.size
     have rd_3:=h.later a_1
     have O_4:=O0.on a_1
     have res_n1:=cZ w
     clear h O0 a_1
     go_wp2_with fail
     refine (hah _ rd_3).mono ?_
     rintro e w1 ⟨rfl,b1⟩
     have z_5:=b1.size
     have rd_6:=rd_3.later b1
     have O_7:=O_4.on b1
     have res_8:=zab b1 res_n1
     clear rd_3 O_4 res_n1
     have a_9:=bal (Below.refl (w1).heap.size (w1)) (.cells (tcs b) 161)
     have zz_9:=zaf (w1) (.cells (tcs b) 161)
     have z_10:=a_9.size
     have rd_11:=rd_6.later a_9
     have O_12:=O_7.on a_9
     have res_13:=zab a_9 res_8
     have tk_n9:=zac (w1) (.cells (tcs b) 161)
     clear rd_6 O_7 res_8 a_9
     go_upto_region 2 with fail
     generalize w1.alloc (.cells (tcs b) 161) = w2 at *
     go_wp2_with (refine zaj rfl 161 _ rfl w1.heap.size (tcs b) 161 rfl tk_n9 _ Tryz.underlying161 rfl 6 zbn rfl ?_)
     refine (hsg _).mono ?_
     rintro e w3 ⟨rfl,b3⟩
     have z_14:=b3.size
     have rd_15:=rd_11.later b3
     have O_16:=O_12.on b3
     have res_17:=zab b3 res_13
     have tk_18:=zab b3 tk_n9
     clear rd_11 O_12 res_13 tk_n9
     have c0:=(zaa tk_18 0).trans rfl
     have c2:=(zaa tk_18 2).trans rfl
     go_wp2_with fail
     refine (hgr _).mono ?_
     rintro e w4 ⟨rfl,rfl⟩
     go_wp2_with fail
     refine (hag _).mono ?_
     rintro e w4 ⟨rfl,rfl⟩
     have OV:=O_16
     go_wp2_with fail
     refine (kag _ rd_15).mono ?_
     intro e wv hq
     obtain ⟨cs,ok,rfl,V⟩:=hq.v
     clear hq
     have row:=V.row
     have z_19:=V.heap.size
     have res_20:=V.heap.heap res_17 (by simp <;> omega)
     clear tk_18 rd_15 O_16 res_17
     go_wp2_with (refine zad rfl 28 _ _ rfl w.heap.size cs rfl rfl _ 28 res_20 13 zae rfl row ?_;intro we re oe ze)
     rw [HX.out]
     exact bodyPost_ret (zai Tryz.results388 _ _ w.heap.size 28 cs _ rfl re Tryz.underlying28 rfl 13 zae row.1) rfl (V.hand2 OV (by omega) hbl oe).p
    | false=>
     cases M with
     | true=>
      have O0:=Off.refl [R.b] w
      have HX:Hid (RES = .inl (x.p,71)):=HC
      clear HC
      go_enter Tryz.func388,Tryz.ntmps388
      have a_1:=bZ w
      have zz_1:=fZ w
      have z_2:=a_1.size
      have rd_3:=h.later a_1
      have O_4:=O0.on a_1
      have res_n1:=cZ w
      clear h O0 a_1
      go_wp2_with fail
      refine (hah _ rd_3).mono ?_
      rintro e w1 ⟨rfl,b1⟩
      have z_5:=b1.size
      have rd_6:=rd_3.later b1
      have O_7:=O_4.on b1
      have res_8:=zab b1 res_n1
      clear rd_3 O_4 res_n1
      have a_9:=bal (Below.refl (w1).heap.size (w1)) (.cells (tcs b) 161)
      have zz_9:=zaf (w1) (.cells (tcs b) 161)
      have z_10:=a_9.size
      have rd_11:=rd_6.later a_9
      have O_12:=O_7.on a_9
      have res_13:=zab a_9 res_8
      have tk_n9:=zac (w1) (.cells (tcs b) 161)
      clear rd_6 O_7 res_8 a_9
      go_upto_region 2 with fail
      generalize w1.alloc (.cells (tcs b) 161) = w2 at *
      go_wp2_with (refine zaj rfl 161 _ rfl w1.heap.size (tcs b) 161 rfl tk_n9 _ Tryz.underlying161 rfl 6 zbn rfl ?_)
      refine (hsg _).mono ?_
      rintro e w3 ⟨rfl,b3⟩
      have z_14:=b3.size
      have rd_15:=rd_11.later b3
      have O_16:=O_12.on b3
      have res_17:=zab b3 res_13
      have tk_18:=zab b3 tk_n9
      clear rd_11 O_12 res_13 tk_n9
      have c0:=(zaa tk_18 0).trans rfl
      have c2:=(zaa tk_18 2).trans rfl
      go_wp2_with fail
      refine (hgr _).mono ?_
      rintro e w4 ⟨rfl,rfl⟩
      go_wp2_with fail
      refine (hag _).mono ?_
      rintro e w4 ⟨rfl,rfl⟩
      go_wp2_with fail
      refine (hmo _).mono ?_
      rintro e w4 ⟨rfl,rfl⟩
      go_wp2_with fail
      refine (krf _ rd_15).mono ?_
      rintro e w4 ⟨rfl,R4,o4⟩
      have z_19:=o4.size
      have O_20:=O_16.trans o4 (by simp <;> omega)
      have res_21:=o4.heap res_17 (by simp <;> omega)
      clear tk_18 rd_15 O_16 res_17
      go_wp2_with (refine zad rfl 28 _ _ rfl w.heap.size zE rfl rfl _ 28 res_21 13 zae rfl rowZ ?_;intro we re oe ze)
      have z_22:=oe.size
      have rd_23:=R4.off oe (by simp <;> omega)
      have O_24:=O_20.trans oe (by simp <;> omega)
      rw [HX.out]
      exact bodyPost_ret (zai Tryz.results388 _ _ w.heap.size 28 zE _ rfl re Tryz.underlying28 rfl 13 zae rfl) rfl ⟨zE,i,rfl,rowZ,rd_23,O_24⟩
     | false=>
      have O0:=Off.refl [R.b] w
      have HX:Hid (RES = RC):=HC
      clear HC
      go_enter Tryz.func388,Tryz.ntmps388
      have a_1:=bZ w
      have zz_1:=fZ w
      have z_2:=a_1.size
      have rd_3:=h.later a_1
      have O_4:=O0.on a_1
      have res_n1:=cZ w
      clear h O0 a_1
      go_wp2_with fail
      refine (hah _ rd_3).mono ?_
      rintro e w1 ⟨rfl,b1⟩
      have z_5:=b1.size
      have rd_6:=rd_3.later b1
      have O_7:=O_4.on b1
      have res_8:=zab b1 res_n1
      clear rd_3 O_4 res_n1
      have a_9:=bal (Below.refl (w1).heap.size (w1)) (.cells (tcs b) 161)
      have zz_9:=zaf (w1) (.cells (tcs b) 161)
      have z_10:=a_9.size
      have rd_11:=rd_6.later a_9
      have O_12:=O_7.on a_9
      have res_13:=zab a_9 res_8
      have tk_n9:=zac (w1) (.cells (tcs b) 161)
      clear rd_6 O_7 res_8 a_9
      go_upto_region 2 with fail
      generalize w1.alloc (.cells (tcs b) 161) = w2 at *
      go_wp2_with (refine zaj rfl 161 _ rfl w1.heap.size (tcs b) 161 rfl tk_n9 _ Tryz.underlying161 rfl 6 zbn rfl ?_)
      refine (hsg _).mono ?_
      rintro e w3 ⟨rfl,b3⟩
      have z_14:=b3.size
      have rd_15:=rd_11.later b3
      have O_16:=O_12.on b3
      have res_17:=zab b3 res_13
      have tk_18:=zab b3 tk_n9
      clear rd_11 O_12 res_13 tk_n9
      have c0:=(zaa tk_18 0).trans rfl
      have c2:=(zaa tk_18 2).trans rfl
      go_wp2_with fail
      refine (hgr _).mono ?_
      rintro e w4 ⟨rfl,rfl⟩
      go_wp2_with fail
      refine (hag _).mono ?_
      rintro e w4 ⟨rfl,rfl⟩
      go_wp2_with fail
      refine (hmo _).mono ?_
      rintro e w4 ⟨rfl,rfl⟩
      have OV:=O_16
      go_wp2_with fail
      refine (kca _ rd_15).mono ?_
      intro e wv hq
      obtain ⟨cs,ok,rfl,V⟩:=hq.v
      clear hq
      have row:=V.row
      have z_19:=V.heap.size
      have res_20:=V.heap.heap res_17 (by simp <;> omega)
      clear tk_18 rd_15 O_16 res_17
      go_wp2_with (refine zad rfl 28 _ _ rfl w.heap.size cs rfl rfl _ 28 res_20 13 zae rfl row ?_;intro we re oe ze)
      rw [HX.out]
      exact bodyPost_ret (zai Tryz.results388 _ _ w.heap.size 28 cs _ rfl re Tryz.underlying28 rfl 13 zae row.1) rfl (V.hand2 OV (by omega) hbl oe).p
  | false=>
   cases A with
   | true=>
    have O0:=Off.refl [R.b] w
    have HX:Hid (RES = RA):=HC
    clear HC
    go_enter Tryz.func388,Tryz.ntmps388
    have a_1:=bZ w
    have zz_1:=fZ w
    have z_2:=a_1.size
    have rd_3:=h.later a_1
    have O_4:=O0.on a_1
    have res_n1:=cZ w
    clear h O0 a_1
    go_wp2_with fail
    refine (hah _ rd_3).mono ?_
    rintro e w1 ⟨rfl,b1⟩
    have z_5:=b1.size
    have rd_6:=rd_3.later b1
    have O_7:=O_4.on b1
    have res_8:=zab b1 res_n1
    clear rd_3 O_4 res_n1
    have a_9:=bal (Below.refl (w1).heap.size (w1)) (.cells (tcs b) 161)
    have zz_9:=zaf (w1) (.cells (tcs b) 161)
    have z_10:=a_9.size
    have rd_11:=rd_6.later a_9
    have O_12:=O_7.on a_9
    have res_13:=zab a_9 res_8
    have tk_n9:=zac (w1) (.cells (tcs b) 161)
    clear rd_6 O_7 res_8 a_9
    go_upto_region 2 with fail
    generalize w1.alloc (.cells (tcs b) 161) = w2 at *
    go_wp2_with (refine zaj rfl 161 _ rfl w1.heap.size (tcs b) 161 rfl tk_n9 _ Tryz.underlying161 rfl 6 zbn rfl ?_)
    refine (hsg _).mono ?_
    rintro e w3 ⟨rfl,b3⟩
    have z_14:=b3.size
    have rd_15:=rd_11.later b3
    have O_16:=O_12.on b3
    have res_17:=zab b3 res_13
    have tk_18:=zab b3 tk_n9
    clear rd_11 O_12 res_13 tk_n9
    have c0:=(zaa tk_18 0).trans rfl
    have c2:=(zaa tk_18 2).trans rfl
    go_wp2_with fail
    refine (hag _).mono ?_
    rintro e w4 ⟨rfl,rfl⟩
    have OV:=O_16
    go_wp2_with fail
    refine (kag _ rd_15).mono ?_
    intro e wv hq
    obtain ⟨cs,ok,rfl,V⟩:=hq.v
    clear hq
    have row:=V.row
    have z_19:=V.heap.size
    have res_20:=V.heap.heap res_17 (by simp <;> omega)
    clear tk_18 rd_15 O_16 res_17
    go_wp2_with (refine zad rfl 28 _ _ rfl w.heap.size cs rfl rfl _ 28 res_20 13 zae rfl row ?_;intro we re oe ze)
    rw [HX.out]
    exact bodyPost_ret (zai Tryz.results388 _ _ w.heap.size 28 cs _ rfl re Tryz.underlying28 rfl 13 zae row.1) rfl (V.hand2 OV (by omega) hbl oe).p
   | false=>
    cases M with
    | true=>
     have O0:=Off.refl [R.b] w
     have HX:Hid (RES = .inl (x.p,71)):=HC
     clear HC
     go_enter Tryz.func388,Tryz.ntmps388
     have a_1:=bZ w
     have zz_1:=fZ w
     have z_2:=a_1.size
     have rd_3:=h.later a_1
     have O_4:=O0.on a_1
     have res_n1:=cZ w
     clear h O0 a_1
     go_wp2_with fail
     refine (hah _ rd_3).mono ?_
     rintro e w1 ⟨rfl,b1⟩
     have z_5:=b1.size
     have rd_6:=rd_3.later b1
     have O_7:=O_4.on b1
     have res_8:=zab b1 res_n1
     clear rd_3 O_4 res_n1
     have a_9:=bal (Below.refl (w1).heap.size (w1)) (.cells (tcs b) 161)
     have zz_9:=zaf (w1) (.cells (tcs b) 161)
     have z_10:=a_9.size
     have rd_11:=rd_6.later a_9
     have O_12:=O_7.on a_9
     have res_13:=zab a_9 res_8
     have tk_n9:=zac (w1) (.cells (tcs b) 161)
     clear rd_6 O_7 res_8 a_9
     go_upto_region 2 with fail
     generalize w1.alloc (.cells (tcs b) 161) = w2 at *
     go_wp2_with (refine zaj rfl 161 _ rfl w1.heap.size (tcs b) 161 rfl tk_n9 _ Tryz.underlying161 rfl 6 zbn rfl ?_)
     refine (hsg _).mono ?_
     rintro e w3 ⟨rfl,b3⟩
     have z_14:=b3.size
     have rd_15:=rd_11.later b3
     have O_16:=O_12.on b3
     have res_17:=zab b3 res_13
     have tk_18:=zab b3 tk_n9
     clear rd_11 O_12 res_13 tk_n9
     have c0:=(zaa tk_18 0).trans rfl
     have c2:=(zaa tk_18 2).trans rfl
     go_wp2_with fail
     refine (hag _).mono ?_
     rintro e w4 ⟨rfl,rfl⟩
     go_wp2_with fail
     refine (hmo _).mono ?_
     rintro e w4 ⟨rfl,rfl⟩
     go_wp2_with fail
     refine (krf _ rd_15).mono ?_
     rintro e w4 ⟨rfl,R4,o4⟩
     have z_19:=o4.size
     have O_20:=O_16.trans o4 (by simp <;> omega)
     have res_21:=o4.heap res_17 (by simp <;> omega)
     clear tk_18 rd_15 O_16 res_17
     go_wp2_with (refine zad rfl 28 _ _ rfl w.heap.size zE rfl rfl _ 28 res_21 13 zae rfl rowZ ?_;intro we re oe ze)
     have z_22:=oe.size
     have rd_23:=R4.off oe (by simp <;> omega)
     have O_24:=O_20.trans oe (by simp <;> omega)
     rw [HX.out]
     exact bodyPost_ret (zai Tryz.results388 _ _ w.heap.size 28 zE _ rfl re Tryz.underlying28 rfl 13 zae rfl) rfl ⟨zE,i,rfl,rowZ,rd_23,O_24⟩
    | false=>
     have O0:=Off.refl [R.b] w
     have HX:Hid (RES = RC):=HC
     clear HC
     go_enter Tryz.func388,Tryz.ntmps388
     have a_1:=bZ w
     have zz_1:=fZ w
     have z_2:=a_1.size
     have rd_3:=h.later a_1
     have O_4:=O0.on a_1
     have res_n1:=cZ w
     clear h O0 a_1
     go_wp2_with fail
     refine (hah _ rd_3).mono ?_
     rintro e w1 ⟨rfl,b1⟩
     have z_5:=b1.size
     have rd_6:=rd_3.later b1
     have O_7:=O_4.on b1
     have res_8:=zab b1 res_n1
     clear rd_3 O_4 res_n1
     have a_9:=bal (Below.refl (w1).heap.size (w1)) (.cells (tcs b) 161)
     have zz_9:=zaf (w1) (.cells (tcs b) 161)
     have z_10:=a_9.size
     have rd_11:=rd_6.later a_9
     have O_12:=O_7.on a_9
     have res_13:=zab a_9 res_8
     have tk_n9:=zac (w1) (.cells (tcs b) 161)
     clear rd_6 O_7 res_8 a_9
     go_upto_region 2 with fail
     generalize w1.alloc (.cells (tcs b) 161) = w2 at *
     go_wp2_with (refine zaj rfl 161 _ rfl w1.heap.size (tcs b) 161 rfl tk_n9 _ Tryz.underlying161 rfl 6 zbn rfl ?_)
     refine (hsg _).mono ?_
     rintro e w3 ⟨rfl,b3⟩
     have z_14:=b3.size
     have rd_15:=rd_11.later b3
     have O_16:=O_12.on b3
     have res_17:=zab b3 res_13
     have tk_18:=zab b3 tk_n9
     clear rd_11 O_12 res_13 tk_n9
     have c0:=(zaa tk_18 0).trans rfl
     have c2:=(zaa tk_18 2).trans rfl
     go_wp2_with fail
     refine (hag _).mono ?_
     rintro e w4 ⟨rfl,rfl⟩
     go_wp2_with fail
     refine (hmo _).mono ?_
     rintro e w4 ⟨rfl,rfl⟩
     have OV:=O_16
     go_wp2_with fail
     refine (kca _ rd_15).mono ?_
     intro e wv hq
     obtain ⟨cs,ok,rfl,V⟩:=hq.v
     clear hq
     have row:=V.row
     have z_19:=V.heap.size
     have res_20:=V.heap.heap res_17 (by simp <;> omega)
     clear tk_18 rd_15 O_16 res_17
     go_wp2_with (refine zad rfl 28 _ _ rfl w.heap.size cs rfl rfl _ 28 res_20 13 zae rfl row ?_;intro we re oe ze)
     rw [HX.out]
     exact bodyPost_ret (zai Tryz.results388 _ _ w.heap.size 28 cs _ rfl re Tryz.underlying28 rfl 13 zae row.1) rfl (V.hand2 OV (by omega) hbl oe).p
 | false=>
  cases g1 with
  | true=>
   cases gr with
   | true=>
    cases A with
    | true=>
     have O0:=Off.refl [R.b] w
     have HX:Hid (RES = RA):=HC
     clear HC
     go_enter Tryz.func388,Tryz.ntmps388
     have a_1:=bZ w
     have zz_1:=fZ w
     have z_2:=a_1.size
     have rd_3:=h.later a_1
     have O_4:=O0.on a_1
     have res_n1:=cZ w
     clear h O0 a_1
     go_wp2_with fail
     refine (hah _ rd_3).mono ?_
     rintro e w1 ⟨rfl,b1⟩
     have z_5:=b1.size
     have rd_6:=rd_3.later b1
     have O_7:=O_4.on b1
     have res_8:=zab b1 res_n1
     clear rd_3 O_4 res_n1
     have a_9:=bal (Below.refl (w1).heap.size (w1)) (.cells (tcs b) 161)
     have zz_9:=zaf (w1) (.cells (tcs b) 161)
     have z_10:=a_9.size
     have rd_11:=rd_6.later a_9
     have O_12:=O_7.on a_9
     have res_13:=zab a_9 res_8
     have tk_n9:=zac (w1) (.cells (tcs b) 161)
     clear rd_6 O_7 res_8 a_9
     go_upto_region 2 with fail
     generalize w1.alloc (.cells (tcs b) 161) = w2 at *
     go_wp2_with (refine zaj rfl 161 _ rfl w1.heap.size (tcs b) 161 rfl tk_n9 _ Tryz.underlying161 rfl 6 zbn rfl ?_)
     refine (hsg _).mono ?_
     rintro e w3 ⟨rfl,b3⟩
     have z_14:=b3.size
     have rd_15:=rd_11.later b3
     have O_16:=O_12.on b3
     have res_17:=zab b3 res_13
     have tk_18:=zab b3 tk_n9
     clear rd_11 O_12 res_13 tk_n9
     have c0:=(zaa tk_18 0).trans rfl
     have c2:=(zaa tk_18 2).trans rfl
     go_wp2_with fail
     refine (hgr _).mono ?_
     rintro e w4 ⟨rfl,rfl⟩
     go_wp2_with fail
     refine (hag _).mono ?_
     rintro e w4 ⟨rfl,rfl⟩
     have OV:=O_16
     go_wp2_with fail
     refine (kag _ rd_15).mono ?_
     intro e wv hq
     obtain ⟨cs,ok,rfl,V⟩:=hq.v
     clear hq
     have row:=V.row
     have z_19:=V.heap.size
     have res_20:=V.heap.heap res_17 (by simp <;> omega)
     clear tk_18 rd_15 O_16 res_17
     go_wp2_with (refine zad rfl 28 _ _ rfl w.heap.size cs rfl rfl _ 28 res_20 13 zae rfl row ?_;intro we re oe ze)
     rw [HX.out]
     exact bodyPost_ret (zai Tryz.results388 _ _ w.heap.size 28 cs _ rfl re Tryz.underlying28 rfl 13 zae row.1) rfl (V.hand2 OV (by omega) hbl oe).p
    | false=>
     cases M with
     | true=>
      have O0:=Off.refl [R.b] w
      have HX:Hid (RES = RS):=HC
      clear HC
      go_enter Tryz.func388,Tryz.ntmps388
      have a_1:=bZ w
      have zz_1:=fZ w
      have z_2:=a_1.size
      have rd_3:=h.later a_1
      have O_4:=O0.on a_1
      have res_n1:=cZ w
      clear h O0 a_1
      go_wp2_with fail
      refine (hah _ rd_3).mono ?_
      rintro e w1 ⟨rfl,b1⟩
      have z_5:=b1.size
      have rd_6:=rd_3.later b1
      have O_7:=O_4.on b1
      have res_8:=zab b1 res_n1
      clear rd_3 O_4 res_n1
      have a_9:=bal (Below.refl (w1).heap.size (w1)) (.cells (tcs b) 161)
      have zz_9:=zaf (w1) (.cells (tcs b) 161)
      have z_10:=a_9.size
      have rd_11:=rd_6.later a_9
      have O_12:=O_7.on a_9
      have res_13:=zab a_9 res_8
      have tk_n9:=zac (w1) (.cells (tcs b) 161)
      clear rd_6 O_7 res_8 a_9
      go_upto_region 2 with fail
      generalize w1.alloc (.cells (tcs b) 161) = w2 at *
      go_wp2_with (refine zaj rfl 161 _ rfl w1.heap.size (tcs b) 161 rfl tk_n9 _ Tryz.underlying161 rfl 6 zbn rfl ?_)
      refine (hsg _).mono ?_
      rintro e w3 ⟨rfl,b3⟩
      have z_14:=b3.size
      have rd_15:=rd_11.later b3
      have O_16:=O_12.on b3
      have res_17:=zab b3 res_13
      have tk_18:=zab b3 tk_n9
      clear rd_11 O_12 res_13 tk_n9
      have c0:=(zaa tk_18 0).trans rfl
      have c2:=(zaa tk_18 2).trans rfl
      go_wp2_with fail
      refine (hgr _).mono ?_
      rintro e w4 ⟨rfl,rfl⟩
      go_wp2_with fail
      refine (hag _).mono ?_
      rintro e w4 ⟨rfl,rfl⟩
      go_wp2_with fail
      refine (hmo _).mono ?_
      rintro e w4 ⟨rfl,rfl⟩
      have OV:=O_16
      go_wp2_with fail
      refine (kse _ rd_15).mono ?_
      intro e wv hq
      obtain ⟨cs,ok,rfl,V⟩:=hq.v
      clear hq
      have row:=V.row
      have z_19:=V.heap.size
      have res_20:=V.heap.heap res_17 (by simp <;> omega)
      clear tk_18 rd_15 O_16 res_17
      go_wp2_with (refine zad rfl 28 _ _ rfl w.heap.size cs rfl rfl _ 28 res_20 13 zae rfl row ?_;intro we re oe ze)
      rw [HX.out]
      exact bodyPost_ret (zai Tryz.results388 _ _ w.heap.size 28 cs _ rfl re Tryz.underlying28 rfl 13 zae row.1) rfl (V.hand2 OV (by omega) hbl oe).p
     | false=>
      have O0:=Off.refl [R.b] w
      have HX:Hid (RES = RS):=HC
      clear HC
      go_enter Tryz.func388,Tryz.ntmps388
      have a_1:=bZ w
      have zz_1:=fZ w
      have z_2:=a_1.size
      have rd_3:=h.later a_1
      have O_4:=O0.on a_1
      have res_n1:=cZ w
      clear h O0 a_1
      go_wp2_with fail
      refine (hah _ rd_3).mono ?_
      rintro e w1 ⟨rfl,b1⟩
      have z_5:=b1.size
      have rd_6:=rd_3.later b1
      have O_7:=O_4.on b1
      have res_8:=zab b1 res_n1
      clear rd_3 O_4 res_n1
      have a_9:=bal (Below.refl (w1).heap.size (w1)) (.cells (tcs b) 161)
      have zz_9:=zaf (w1) (.cells (tcs b) 161)
      have z_10:=a_9.size
      have rd_11:=rd_6.later a_9
      have O_12:=O_7.on a_9
      have res_13:=zab a_9 res_8
      have tk_n9:=zac (w1) (.cells (tcs b) 161)
      clear rd_6 O_7 res_8 a_9
      go_upto_region 2 with fail
      generalize w1.alloc (.cells (tcs b) 161) = w2 at *
      go_wp2_with (refine zaj rfl 161 _ rfl w1.heap.size (tcs b) 161 rfl tk_n9 _ Tryz.underlying161 rfl 6 zbn rfl ?_)
      refine (hsg _).mono ?_
      rintro e w3 ⟨rfl,b3⟩
      have z_14:=b3.size
      have rd_15:=rd_11.later b3
      have O_16:=O_12.on b3
      have res_17:=zab b3 res_13
      have tk_18:=zab b3 tk_n9
      clear rd_11 O_12 res_13 tk_n9
      have c0:=(zaa tk_18 0).trans rfl
      have c2:=(zaa tk_18 2).trans rfl
      go_wp2_with fail
      refine (hgr _).mono ?_
      rintro e w4 ⟨rfl,rfl⟩
      go_wp2_with fail
      refine (hag _).mono ?_
      rintro e w4 ⟨rfl,rfl⟩
      go_wp2_with fail
      refine (hmo _).mono ?_
      rintro e w4 ⟨rfl,rfl⟩
      have OV:=O_16
      go_wp2_with fail
      refine (kse _ rd_15).mono ?_
      intro e wv hq
      obtain ⟨cs,ok,rfl,V⟩:=hq.v
      clear hq
      have row:=V.row
      have z_19:=V.heap.size
      have res_20:=V.heap.heap res_17 (by simp <;> omega)
      clear tk_18 rd_15 O_16 res_17
      go_wp2_with (refine zad rfl 28 _ _ rfl w.heap.size cs rfl rfl _ 28 res_20 13 zae rfl row ?_;intro we re oe ze)
      rw [HX.out]
      exact bodyPost_ret (zai Tryz.results388 _ _ w.heap.size 28 cs _ rfl re Tryz.underlying28 rfl 13 zae row.1) rfl (V.hand2 OV (by omega) hbl oe).p
   | false=>
    cases A with
    | true=>
     cases M with
     | true=>
      have O0:=Off.refl [R.b] w
      have HX:Hid (RES = RS):=HC
      clear HC
      go_enter Tryz.func388,Tryz.ntmps388
      have a_1:=bZ w
      have zz_1:=fZ w
      have z_2:=a_1.size
      have rd_3:=h.later a_1
      have O_4:=O0.on a_1
      have res_n1:=cZ w
      clear h O0 a_1
      go_wp2_with fail
      refine (hah _ rd_3).mono ?_
      rintro e w1 ⟨rfl,b1⟩
      have z_5:=b1.size
      have rd_6:=rd_3.later b1
      have O_7:=O_4.on b1
      have res_8:=zab b1 res_n1
      clear rd_3 O_4 res_n1
      have a_9:=bal (Below.refl (w1).heap.size (w1)) (.cells (tcs b) 161)
      have zz_9:=zaf (w1) (.cells (tcs b) 161)
      have z_10:=a_9.size
      have rd_11:=rd_6.later a_9
      have O_12:=O_7.on a_9
      have res_13:=zab a_9 res_8
      have tk_n9:=zac (w1) (.cells (tcs b) 161)
      clear rd_6 O_7 res_8 a_9
      go_upto_region 2 with fail
      generalize w1.alloc (.cells (tcs b) 161) = w2 at *
      go_wp2_with (refine zaj rfl 161 _ rfl w1.heap.size (tcs b) 161 rfl tk_n9 _ Tryz.underlying161 rfl 6 zbn rfl ?_)
      refine (hsg _).mono ?_
      rintro e w3 ⟨rfl,b3⟩
      have z_14:=b3.size
      have rd_15:=rd_11.later b3
      have O_16:=O_12.on b3
      have res_17:=zab b3 res_13
      have tk_18:=zab b3 tk_n9
      clear rd_11 O_12 res_13 tk_n9
      have c0:=(zaa tk_18 0).trans rfl
      have c2:=(zaa tk_18 2).trans rfl
      go_wp2_with fail
      refine (hgr _).mono ?_
      rintro e w4 ⟨rfl,rfl⟩
      go_wp2_with fail
      refine (hag _).mono ?_
      rintro e w4 ⟨rfl,rfl⟩
      go_wp2_with fail
      refine (hmo _).mono ?_
      rintro e w4 ⟨rfl,rfl⟩
      have OV:=O_16
      go_wp2_with fail
      refine (kse _ rd_15).mono ?_
      intro e wv hq
      obtain ⟨cs,ok,rfl,V⟩:=hq.v
      clear hq
      have row:=V.row
      have z_19:=V.heap.size
      have res_20:=V.heap.heap res_17 (by simp <;> omega)
      clear tk_18 rd_15 O_16 res_17
      go_wp2_with (refine zad rfl 28 _ _ rfl w.heap.size cs rfl rfl _ 28 res_20 13 zae rfl row ?_;intro we re oe ze)
      rw [HX.out]
      exact bodyPost_ret (zai Tryz.results388 _ _ w.heap.size 28 cs _ rfl re Tryz.underlying28 rfl 13 zae row.1) rfl (V.hand2 OV (by omega) hbl oe).p
     | false=>
      have O0:=Off.refl [R.b] w
      have HX:Hid (RES = RS):=HC
      clear HC
      go_enter Tryz.func388,Tryz.ntmps388
      have a_1:=bZ w
      have zz_1:=fZ w
      have z_2:=a_1.size
      have rd_3:=h.later a_1
      have O_4:=O0.on a_1
      have res_n1:=cZ w
      clear h O0 a_1
      go_wp2_with fail
      refine (hah _ rd_3).mono ?_
      rintro e w1 ⟨rfl,b1⟩
      have z_5:=b1.size
      have rd_6:=rd_3.later b1
      have O_7:=O_4.on b1
      have res_8:=zab b1 res_n1
      clear rd_3 O_4 res_n1
      have a_9:=bal (Below.refl (w1).heap.size (w1)) (.cells (tcs b) 161)
      have zz_9:=zaf (w1) (.cells (tcs b) 161)
      have z_10:=a_9.size
      have rd_11:=rd_6.later a_9
      have O_12:=O_7.on a_9
      have res_13:=zab a_9 res_8
      have tk_n9:=zac (w1) (.cells (tcs b) 161)
      clear rd_6 O_7 res_8 a_9
      go_upto_region 2 with fail
      generalize w1.alloc (.cells (tcs b) 161) = w2 at *
      go_wp2_with (refine zaj rfl 161 _ rfl w1.heap.size (tcs b) 161 rfl tk_n9 _ Tryz.underlying161 rfl 6 zbn rfl ?_)
      refine (hsg _).mono ?_
      rintro e w3 ⟨rfl,b3⟩
      have z_14:=b3.size
      have rd_15:=rd_11.later b3
      have O_16:=O_12.on b3
      have res_17:=zab b3 res_13
      have tk_18:=zab b3 tk_n9
      clear rd_11 O_12 res_13 tk_n9
      have c0:=(zaa tk_18 0).trans rfl
      have c2:=(zaa tk_18 2).trans rfl
      go_wp2_with fail
      refine (hgr _).mono ?_
      rintro e w4 ⟨rfl,rfl⟩
      go_wp2_with fail
      refine (hag _).mono ?_
      rintro e w4 ⟨rfl,rfl⟩
      go_wp2_with fail
      refine (hmo _).mono ?_
      rintro e w4 ⟨rfl,rfl⟩
      have OV:=O_16
      go_wp2_with fail
      refine (kse _ rd_15).mono ?_
      intro e wv hq
      obtain ⟨cs,ok,rfl,V⟩:=hq.v
      clear hq
      have row:=V.row
      have z_19:=V.heap.size
      have res_20:=V.heap.heap res_17 (by simp <;> omega)
      clear tk_18 rd_15 O_16 res_17
      go_wp2_with (refine zad rfl 28 _ _ rfl w.heap.size cs rfl rfl _ 28 res_20 13 zae rfl row ?_;intro we re oe ze)
      rw [HX.out]
      exact bodyPost_ret (zai Tryz.results388 _ _ w.heap.size 28 cs _ rfl re Tryz.underlying28 rfl 13 zae row.1) rfl (V.hand2 OV (by omega) hbl oe).p
    | false=>
     cases M with
     | true=>
      have O0:=Off.refl [R.b] w
      have HX:Hid (RES = RS):=HC
      clear HC
      go_enter Tryz.func388,Tryz.ntmps388
      have a_1:=bZ w
      have zz_1:=fZ w
      have z_2:=a_1.size
      have rd_3:=h.later a_1
      have O_4:=O0.on a_1
      have res_n1:=cZ w
      clear h O0 a_1
      go_wp2_with fail
      refine (hah _ rd_3).mono ?_
      rintro e w1 ⟨rfl,b1⟩
      have z_5:=b1.size
      have rd_6:=rd_3.later b1
      have O_7:=O_4.on b1
      have res_8:=zab b1 res_n1
      clear rd_3 O_4 res_n1
      have a_9:=bal (Below.refl (w1).heap.size (w1)) (.cells (tcs b) 161)
      have zz_9:=zaf (w1) (.cells (tcs b) 161)
      have z_10:=a_9.size
      have rd_11:=rd_6.later a_9
      have O_12:=O_7.on a_9
      have res_13:=zab a_9 res_8
      have tk_n9:=zac (w1) (.cells (tcs b) 161)
      clear rd_6 O_7 res_8 a_9
      go_upto_region 2 with fail
      generalize w1.alloc (.cells (tcs b) 161) = w2 at *
      go_wp2_with (refine zaj rfl 161 _ rfl w1.heap.size (tcs b) 161 rfl tk_n9 _ Tryz.underlying161 rfl 6 zbn rfl ?_)
      refine (hsg _).mono ?_
      rintro e w3 ⟨rfl,b3⟩
      have z_14:=b3.size
      have rd_15:=rd_11.later b3
      have O_16:=O_12.on b3
      have res_17:=zab b3 res_13
      have tk_18:=zab b3 tk_n9
      clear rd_11 O_12 res_13 tk_n9
      have c0:=(zaa tk_18 0).trans rfl
      have c2:=(zaa tk_18 2).trans rfl
      go_wp2_with fail
      refine (hgr _).mono ?_
      rintro e w4 ⟨rfl,rfl⟩
      go_wp2_with fail
      refine (hag _).mono ?_
      rintro e w4 ⟨rfl,rfl⟩
      go_wp2_with fail
      refine (hmo _).mono ?_
      rintro e w4 ⟨rfl,rfl⟩
      have OV:=O_16
      go_wp2_with fail
      refine (kse _ rd_15).mono ?_
      intro e wv hq
      obtain ⟨cs,ok,rfl,V⟩:=hq.v
      clear hq
      have row:=V.row
      have z_19:=V.heap.size
      have res_20:=V.heap.heap res_17 (by simp <;> omega)
      clear tk_18 rd_15 O_16 res_17
      go_wp2_with (refine zad rfl 28 _ _ rfl w.heap.size cs rfl rfl _ 28 res_20 13 zae rfl row ?_;intro we re oe ze)
      rw [HX.out]
      exact bodyPost_ret (zai Tryz.results388 _ _ w.heap.size 28 cs _ rfl re Tryz.underlying28 rfl 13 zae row.1) rfl (V.hand2 OV (by omega) hbl oe).p
     | false=>
      have O0:=Off.refl [R.b] w
      have HX:Hid (RES = RS):=HC
      clear HC
      go_enter Tryz.func388,Tryz.ntmps388
      have a_1:=bZ w
      have zz_1:=fZ w
      have z_2:=a_1.size
      have rd_3:=h.later a_1
      have O_4:=O0.on a_1
      have res_n1:=cZ w
      clear h O0 a_1
      go_wp2_with fail
      refine (hah _ rd_3).mono ?_
      rintro e w1 ⟨rfl,b1⟩
      have z_5:=b1.size
      have rd_6:=rd_3.later b1
      have O_7:=O_4.on b1
      have res_8:=zab b1 res_n1
      clear rd_3 O_4 res_n1
      have a_9:=bal (Below.refl (w1).heap.size (w1)) (.cells (tcs b) 161)
      have zz_9:=zaf (w1) (.cells (tcs b) 161)
      have z_10:=a_9.size
      have rd_11:=rd_6.later a_9
      have O_12:=O_7.on a_9
      have res_13:=zab a_9 res_8
      have tk_n9:=zac (w1) (.cells (tcs b) 161)
      clear rd_6 O_7 res_8 a_9
      go_upto_region 2 with fail
      generalize w1.alloc (.cells (tcs b) 161) = w2 at *
      go_wp2_with (refine zaj rfl 161 _ rfl w1.heap.size (tcs b) 161 rfl tk_n9 _ Tryz.underlying161 rfl 6 zbn rfl ?_)
      refine (hsg _).mono ?_
      rintro e w3 ⟨rfl,b3⟩
      have z_14:=b3.size
      have rd_15:=rd_11.later b3
      have O_16:=O_12.on b3
      have res_17:=zab b3 res_13
      have tk_18:=zab b3 tk_n9
      clear rd_11 O_12 res_13 tk_n9
      have c0:=(zaa tk_18 0).trans rfl
      have c2:=(zaa tk_18 2).trans rfl
      go_wp2_with fail
      refine (hgr _).mono ?_
      rintro e w4 ⟨rfl,rfl⟩
      go_wp2_with fail
      refine (hag _).mono ?_
      rintro e w4 ⟨rfl,rfl⟩
      go_wp2_with fail
      refine (hmo _).mono ?_
      rintro e w4 ⟨rfl,rfl⟩
      have OV:=O_16
      go_wp2_with fail
      refine (kse _ rd_15).mono ?_
      intro e wv hq
      obtain ⟨cs,ok,rfl,V⟩:=hq.v
      clear hq
      have row:=V.row
      have z_19:=V.heap.size
      have res_20:=V.heap.heap res_17 (by simp <;> omega)
      clear tk_18 rd_15 O_16 res_17
      go_wp2_with (refine zad rfl 28 _ _ rfl w.heap.size cs rfl rfl _ 28 res_20 13 zae rfl row ?_;intro we re oe ze)
      rw [HX.out]
      exact bodyPost_ret (zai Tryz.results388 _ _ w.heap.size 28 cs _ rfl re Tryz.underlying28 rfl 13 zae row.1) rfl (V.hand2 OV (by omega) hbl oe).p
  | false=>
   cases A with
   | true=>
    cases M with
    | true=>
     have O0:=Off.refl [R.b] w
     have HX:Hid (RES = RS):=HC
     clear HC
     go_enter Tryz.func388,Tryz.ntmps388
     have a_1:=bZ w
     have zz_1:=fZ w
     have z_2:=a_1.size
     have rd_3:=h.later a_1
     have O_4:=O0.on a_1
     have res_n1:=cZ w
     clear h O0 a_1
     go_wp2_with fail
     refine (hah _ rd_3).mono ?_
     rintro e w1 ⟨rfl,b1⟩
     have z_5:=b1.size
     have rd_6:=rd_3.later b1
     have O_7:=O_4.on b1
     have res_8:=zab b1 res_n1
     clear rd_3 O_4 res_n1
     have a_9:=bal (Below.refl (w1).heap.size (w1)) (.cells (tcs b) 161)
     have zz_9:=zaf (w1) (.cells (tcs b) 161)
     have z_10:=a_9.size
     have rd_11:=rd_6.later a_9
     have O_12:=O_7.on a_9
     have res_13:=zab a_9 res_8
     have tk_n9:=zac (w1) (.cells (tcs b) 161)
     clear rd_6 O_7 res_8 a_9
     go_upto_region 2 with fail
     generalize w1.alloc (.cells (tcs b) 161) = w2 at *
     go_wp2_with (refine zaj rfl 161 _ rfl w1.heap.size (tcs b) 161 rfl tk_n9 _ Tryz.underlying161 rfl 6 zbn rfl ?_)
     refine (hsg _).mono ?_
     rintro e w3 ⟨rfl,b3⟩
     have z_14:=b3.size
     have rd_15:=rd_11.later b3
     have O_16:=O_12.on b3
     have res_17:=zab b3 res_13
     have tk_18:=zab b3 tk_n9
     clear rd_11 O_12 res_13 tk_n9
     have c0:=(zaa tk_18 0).trans rfl
     have c2:=(zaa tk_18 2).trans rfl
     go_wp2_with fail
     refine (hag _).mono ?_
     rintro e w4 ⟨rfl,rfl⟩
     go_wp2_with fail
     refine (hmo _).mono ?_
     rintro e w4 ⟨rfl,rfl⟩
     have OV:=O_16
     go_wp2_with fail
     refine (kse _ rd_15).mono ?_
     intro e wv hq
     obtain ⟨cs,ok,rfl,V⟩:=hq.v
     clear hq
     have row:=V.row
     have z_19:=V.heap.size
     have res_20:=V.heap.heap res_17 (by simp <;> omega)
     clear tk_18 rd_15 O_16 res_17
     go_wp2_with (refine zad rfl 28 _ _ rfl w.heap.size cs rfl rfl _ 28 res_20 13 zae rfl row ?_;intro we re oe ze)
     rw [HX.out]
     exact bodyPost_ret (zai Tryz.results388 _ _ w.heap.size 28 cs _ rfl re Tryz.underlying28 rfl 13 zae row.1) rfl (V.hand2 OV (by omega) hbl oe).p
    | false=>
     have O0:=Off.refl [R.b] w
     have HX:Hid (RES = RS):=HC
     clear HC
     go_enter Tryz.func388,Tryz.ntmps388
     have a_1:=bZ w
     have zz_1:=fZ w
     have z_2:=a_1.size
     have rd_3:=h.later a_1
     have O_4:=O0.on a_1
     have res_n1:=cZ w
     clear h O0 a_1
     go_wp2_with fail
     refine (hah _ rd_3).mono ?_
     rintro e w1 ⟨rfl,b1⟩
     have z_5:=b1.size
     have rd_6:=rd_3.later b1
     have O_7:=O_4.on b1
     have res_8:=zab b1 res_n1
     clear rd_3 O_4 res_n1
     have a_9:=bal (Below.refl (w1).heap.size (w1)) (.cells (tcs b) 161)
     have zz_9:=zaf (w1) (.cells (tcs b) 161)
     have z_10:=a_9.size
     have rd_11:=rd_6.later a_9
     have O_12:=O_7.on a_9
     have res_13:=zab a_9 res_8
     have tk_n9:=zac (w1) (.cells (tcs b) 161)
     clear rd_6 O_7 res_8 a_9
     go_upto_region 2 with fail
     generalize w1.alloc (.cells (tcs b) 161) = w2 at *
     go_wp2_with (refine zaj rfl 161 _ rfl w1.heap.size (tcs b) 161 rfl tk_n9 _ Tryz.underlying161 rfl 6 zbn rfl ?_)
     refine (hsg _).mono ?_
     rintro e w3 ⟨rfl,b3⟩
     have z_14:=b3.size
     have rd_15:=rd_11.later b3
     have O_16:=O_12.on b3
     have res_17:=zab b3 res_13
     have tk_18:=zab b3 tk_n9
     clear rd_11 O_12 res_13 tk_n9
     have c0:=(zaa tk_18 0).trans rfl
     have c2:=(zaa tk_18 2).trans rfl
     go_wp2_with fail
     refine (hag _).mono ?_
     rintro e w4 ⟨rfl,rfl⟩
     go_wp2_with fail
     refine (hmo _).mono ?_
     rintro e w4 ⟨rfl,rfl⟩
     have OV:=O_16
     go_wp2_with fail
     refine (kse _ rd_15).mono ?_
     intro e wv hq
     obtain ⟨cs,ok,rfl,V⟩:=hq.v
     clear hq
     have row:=V.row
     have z_19:=V.heap.size
     have res_20:=V.heap.heap res_17 (by simp <;> omega)
     clear tk_18 rd_15 O_16 res_17
     go_wp2_with (refine zad rfl 28 _ _ rfl w.heap.size cs rfl rfl _ 28 res_20 13 zae rfl row ?_;intro we re oe ze)
     rw [HX.out]
     exact bodyPost_ret (zai Tryz.results388 _ _ w.heap.size 28 cs _ rfl re Tryz.underlying28 rfl 13 zae row.1) rfl (V.hand2 OV (by omega) hbl oe).p
   | false=>
    cases M with
    | true=>
     have O0:=Off.refl [R.b] w
     have HX:Hid (RES = RS):=HC
     clear HC
     go_enter Tryz.func388,Tryz.ntmps388
     have a_1:=bZ w
     have zz_1:=fZ w
     have z_2:=a_1.size
     have rd_3:=h.later a_1
     have O_4:=O0.on a_1
     have res_n1:=cZ w
     clear h O0 a_1
     go_wp2_with fail
     refine (hah _ rd_3).mono ?_
     rintro e w1 ⟨rfl,b1⟩
     have z_5:=b1.size
     have rd_6:=rd_3.later b1
     have O_7:=O_4.on b1
     have res_8:=zab b1 res_n1
     clear rd_3 O_4 res_n1
     have a_9:=bal (Below.refl (w1).heap.size (w1)) (.cells (tcs b) 161)
     have zz_9:=zaf (w1) (.cells (tcs b) 161)
     have z_10:=a_9.size
     have rd_11:=rd_6.later a_9
     have O_12:=O_7.on a_9
     have res_13:=zab a_9 res_8
     have tk_n9:=zac (w1) (.cells (tcs b) 161)
     clear rd_6 O_7 res_8 a_9
     go_upto_region 2 with fail
     generalize w1.alloc (.cells (tcs b) 161) = w2 at *
     go_wp2_with (refine zaj rfl 161 _ rfl w1.heap.size (tcs b) 161 rfl tk_n9 _ Tryz.underlying161 rfl 6 zbn rfl ?_)
     refine (hsg _).mono ?_
     rintro e w3 ⟨rfl,b3⟩
     have z_14:=b3.size
     have rd_15:=rd_11.later b3
     have O_16:=O_12.on b3
     have res_17:=zab b3 res_13
     have tk_18:=zab b3 tk_n9
     clear rd_11 O_12 res_13 tk_n9
     have c0:=(zaa tk_18 0).trans rfl
     have c2:=(zaa tk_18 2).trans rfl
     go_wp2_with fail
     refine (hag _).mono ?_
     rintro e w4 ⟨rfl,rfl⟩
     go_wp2_with fail
     refine (hmo _).mono ?_
     rintro e w4 ⟨rfl,rfl⟩
     have OV:=O_16
     go_wp2_with fail
     refine (kse _ rd_15).mono ?_
     intro e wv hq
     obtain ⟨cs,ok,rfl,V⟩:=hq.v
     clear hq
     have row:=V.row
     have z_19:=V.heap.size
     have res_20:=V.heap.heap res_17 (by simp <;> omega)
     clear tk_18 rd_15 O_16 res_17
     go_wp2_with (refine zad rfl 28 _ _ rfl w.heap.size cs rfl rfl _ 28 res_20 13 zae rfl row ?_;intro we re oe ze)
     rw [HX.out]
     exact bodyPost_ret (zai Tryz.results388 _ _ w.heap.size 28 cs _ rfl re Tryz.underlying28 rfl 13 zae row.1) rfl (V.hand2 OV (by omega) hbl oe).p
    | false=>
     have O0:=Off.refl [R.b] w
     have HX:Hid (RES = RS):=HC
     clear HC
     go_enter Tryz.func388,Tryz.ntmps388
     have a_1:=bZ w
     have zz_1:=fZ w
     have z_2:=a_1.size
     have rd_3:=h.later a_1
     have O_4:=O0.on a_1
     have res_n1:=cZ w
     clear h O0 a_1
     go_wp2_with fail
     refine (hah _ rd_3).mono ?_
     rintro e w1 ⟨rfl,b1⟩
     have z_5:=b1.size
     have rd_6:=rd_3.later b1
     have O_7:=O_4.on b1
     have res_8:=zab b1 res_n1
     clear rd_3 O_4 res_n1
     have a_9:=bal (Below.refl (w1).heap.size (w1)) (.cells (tcs b) 161)
     have zz_9:=zaf (w1) (.cells (tcs b) 161)
     have z_10:=a_9.size
     have rd_11:=rd_6.later a_9
     have O_12:=O_7.on a_9
     have res_13:=zab a_9 res_8
     have tk_n9:=zac (w1) (.cells (tcs b) 161)
     clear rd_6 O_7 res_8 a_9
     go_upto_region 2 with fail
     generalize w1.alloc (.cells (tcs b) 161) = w2 at *
     go_wp2_with (refine zaj rfl 161 _ rfl w1.heap.size (tcs b) 161 rfl tk_n9 _ Tryz.underlying161 rfl 6 zbn rfl ?_)
     refine (hsg _).mono ?_
     rintro e w3 ⟨rfl,b3⟩
     have z_14:=b3.size
     have rd_15:=rd_11.later b3
     have O_16:=O_12.on b3
     have res_17:=zab b3 res_13
     have tk_18:=zab b3 tk_n9
     clear rd_11 O_12 res_13 tk_n9
     have c0:=(zaa tk_18 0).trans rfl
     have c2:=(zaa tk_18 2).trans rfl
     go_wp2_with fail
     refine (hag _).mono ?_
     rintro e w4 ⟨rfl,rfl⟩
     go_wp2_with fail
     refine (hmo _).mono ?_
     rintro e w4 ⟨rfl,rfl⟩
     have OV:=O_16
     go_wp2_with fail
     refine (kse _ rd_15).mono ?_
     intro e wv hq
     obtain ⟨cs,ok,rfl,V⟩:=hq.v
     clear hq
     have row:=V.row
     have z_19:=V.heap.size
     have res_20:=V.heap.heap res_17 (by simp <;> omega)
     clear tk_18 rd_15 O_16 res_17
     go_wp2_with (refine zad rfl 28 _ _ rfl w.heap.size cs rfl rfl _ 28 res_20 13 zae rfl row ?_;intro we re oe ze)
     rw [HX.out]
     exact bodyPost_ret (zai Tryz.results388 _ _ w.heap.size 28 cs _ rfl re Tryz.underlying28 rfl 13 zae row.1) rfl (V.hand2 OV (by omega) hbl oe).p
set_option maxRecDepth 20000 in
theorem zld (R:Rc) (dp:Int) (c:List Tk → Rs Ex) (hB:RunOK R 389 dp (brkP R.q c)):RunOK R 357 dp (prmP R.q c):=by
 intro w i fp fy h
 have hbl:=h.bl
 have hah:=fun W (hW:Rd R W i dp fp fy)=>zao R hW
 have hs1:=fun W=>zbb (hd R.q (R.T.drop i)) [40] W
 have hs2:=fun W=>zbb (hd R.q (R.T.drop i)) [123] W
 have krf:=fun W (hW:Rd R W i dp fp fy)=>zba R 71 hW
 have kse:=fun W (hW:Rd R W i dp fp fy)=>zfe R hW
 have kbr:=fun W (hW:Rd R W i dp fp fy)=>hB W i fp fy hW
 by_cases hk2:(hd R.q (R.T.drop i)).k = 2
 ·
  have t2:((hd R.q (R.T.drop i)).k == 2) = true:=beq_iff_eq.2 hk2
  have knu:=fun W (hW:Rd R W i dp fp fy)=>zog R hW hk2
  have HX:Hid (prmP R.q c (R.T.drop i) = .inr (eNum (hd R.q (R.T.drop i)).p (hd R.q (R.T.drop i)).o (hd R.q (R.T.drop i)).n,R.T.drop (i + 1))):=by
   show _ = _
   unfold prmP
   rw [if_pos hk2,List.tail_drop]
  clear hk2
  generalize prmP R.q c (R.T.drop i) = RES at *
  generalize hd R.q (R.T.drop i) = x at *
  have O0:=Off.refl [R.b] w
  go_enter Tryz.func357,Tryz.ntmps357
  have a_1:=bZ w
  have zz_1:=fZ w
  have z_2:=a_1.size
  have rd_3:=h.later a_1
  have O_4:=O0.on a_1
  have res_n1:=cZ w
  clear h O0 a_1
  go_wp2_with fail
  refine (hah _ rd_3).mono ?_
  rintro e w1 ⟨rfl,b1⟩
  have z_5:=b1.size
  have rd_6:=rd_3.later b1
  have O_7:=O_4.on b1
  have res_8:=zab b1 res_n1
  clear rd_3 O_4 res_n1
  have a_9:=bal (Below.refl (w1).heap.size (w1)) (.cells (tcs x) 161)
  have zz_9:=zaf (w1) (.cells (tcs x) 161)
  have z_10:=a_9.size
  have rd_11:=rd_6.later a_9
  have O_12:=O_7.on a_9
  have res_13:=zab a_9 res_8
  have tk_n9:=zac (w1) (.cells (tcs x) 161)
  clear rd_6 O_7 res_8 a_9
  go_upto_region 2 with fail
  generalize w1.alloc (.cells (tcs x) 161) = w2 at *
  have c0:=(zaa tk_n9 0).trans rfl
  have c2:=(zaa tk_n9 2).trans rfl
  go_upto_region 3 with fail
  clear c0 c2
  have OV:=O_12
  go_wp2_with fail
  refine (knu _ rd_11).mono ?_
  intro e wv hq
  obtain ⟨cs,ok,rfl,V⟩:=hq.v
  clear hq
  have row:=V.row
  have z_14:=V.heap.size
  have res_15:=V.heap.heap res_13 (by simp <;> omega)
  clear tk_n9 rd_11 O_12 res_13
  go_wp2_with (refine zad rfl 28 _ _ rfl w.heap.size cs rfl rfl _ 28 res_15 13 zae rfl row ?_;intro we re oe ze)
  rw [HX.out]
  exact bodyPost_ret (zai Tryz.results357 _ _ w.heap.size 28 cs _ rfl re Tryz.underlying28 rfl 13 zae row.1) rfl (V.hand2 OV (by omega) hbl oe).p
 have t2:((hd R.q (R.T.drop i)).k == 2) = false:=beq_eq_false_iff_ne.2 hk2
 by_cases hk1:(hd R.q (R.T.drop i)).k = 1
 ·
  have t1:((hd R.q (R.T.drop i)).k == 1) = true:=beq_iff_eq.2 hk1
  have hi:=zih h (by rw [hk1];decide)
  have kna:=fun W (hW:Rd R W i dp fp fy)=>named_any R dp c hB hW hi
  have HX:Hid (prmP R.q c (R.T.drop i) = namP R.q c (R.T.drop i)):=by
   show _ = _
   unfold prmP
   rw [if_neg hk2,if_pos hk1]
  clear hk2 hk1
  generalize prmP R.q c (R.T.drop i) = RES at *
  generalize namP R.q c (R.T.drop i) = RN at *
  generalize hd R.q (R.T.drop i) = x at *
  have O0:=Off.refl [R.b] w
  go_enter Tryz.func357,Tryz.ntmps357
  have a_1:=bZ w
  have zz_1:=fZ w
  have z_2:=a_1.size
  have rd_3:=h.later a_1
  have O_4:=O0.on a_1
  have res_n1:=cZ w
  clear h O0 a_1
  go_wp2_with fail
  refine (hah _ rd_3).mono ?_
  rintro e w1 ⟨rfl,b1⟩
  have z_5:=b1.size
  have rd_6:=rd_3.later b1
  have O_7:=O_4.on b1
  have res_8:=zab b1 res_n1
  clear rd_3 O_4 res_n1
  have a_9:=bal (Below.refl (w1).heap.size (w1)) (.cells (tcs x) 161)
  have zz_9:=zaf (w1) (.cells (tcs x) 161)
  have z_10:=a_9.size
  have rd_11:=rd_6.later a_9
  have O_12:=O_7.on a_9
  have res_13:=zab a_9 res_8
  have tk_n9:=zac (w1) (.cells (tcs x) 161)
  clear rd_6 O_7 res_8 a_9
  go_upto_region 2 with fail
  generalize w1.alloc (.cells (tcs x) 161) = w2 at *
  have c0:=(zaa tk_n9 0).trans rfl
  have c2:=(zaa tk_n9 2).trans rfl
  go_upto_region 5 with fail
  have OV:=O_12
  go_wp2_with fail
  refine (kna _ rd_11).mono ?_
  intro e wv hq
  obtain ⟨cs,ok,rfl,V⟩:=hq.v
  clear hq
  have row:=V.row
  have z_14:=V.heap.size
  have res_15:=V.heap.heap res_13 (by simp <;> omega)
  clear tk_n9 rd_11 O_12 res_13
  go_wp2_with (refine zad rfl 28 _ _ rfl w.heap.size cs rfl rfl _ 28 res_15 13 zae rfl row ?_;intro we re oe ze)
  rw [HX.out]
  exact bodyPost_ret (zai Tryz.results357 _ _ w.heap.size 28 cs _ rfl re Tryz.underlying28 rfl 13 zae row.1) rfl (V.hand2 OV (by omega) hbl oe).p
 have t1:((hd R.q (R.T.drop i)).k == 1) = false:=beq_eq_false_iff_ne.2 hk1
 have HC:Hid (prmP R.q c (R.T.drop i) = if sg (hd R.q (R.T.drop i)) [40] = true then brkP R.q c (R.T.drop i) else if sg (hd R.q (R.T.drop i)) [123] = true then selP R.q (R.T.drop i) else .inl ((hd R.q (R.T.drop i)).p,71)):=by
  show _ = _
  unfold prmP bad
  rw [if_neg hk2,if_neg hk1]
 clear hk2 hk1 hB
 generalize prmP R.q c (R.T.drop i) = RES at *
 generalize brkP R.q c (R.T.drop i) = RB at *
 generalize selP R.q (R.T.drop i) = RS at *
 generalize hd R.q (R.T.drop i) = x at *
 generalize sg x [40] = o1 at *
 generalize sg x [123] = o2 at *
 cases o1 with
 | true=>
  have HX:Hid (RES = RB):=HC
  clear HC
  have O0:=Off.refl [R.b] w
  go_enter Tryz.func357,Tryz.ntmps357
  have a_1:=bZ w
  have zz_1:=fZ w
  have z_2:=a_1.size
  have rd_3:=h.later a_1
  have O_4:=O0.on a_1
  have res_n1:=cZ w
  clear h O0 a_1
  go_wp2_with fail
  refine (hah _ rd_3).mono ?_
  rintro e w1 ⟨rfl,b1⟩
  have z_5:=b1.size
  have rd_6:=rd_3.later b1
  have O_7:=O_4.on b1
  have res_8:=zab b1 res_n1
  clear rd_3 O_4 res_n1
  have a_9:=bal (Below.refl (w1).heap.size (w1)) (.cells (tcs x) 161)
  have zz_9:=zaf (w1) (.cells (tcs x) 161)
  have z_10:=a_9.size
  have rd_11:=rd_6.later a_9
  have O_12:=O_7.on a_9
  have res_13:=zab a_9 res_8
  have tk_n9:=zac (w1) (.cells (tcs x) 161)
  clear rd_6 O_7 res_8 a_9
  go_upto_region 2 with fail
  generalize w1.alloc (.cells (tcs x) 161) = w2 at *
  have c0:=(zaa tk_n9 0).trans rfl
  have c2:=(zaa tk_n9 2).trans rfl
  go_wp2_with (refine zaj rfl 161 _ rfl w1.heap.size (tcs x) 161 rfl tk_n9 _ Tryz.underlying161 rfl 6 zbn rfl ?_)
  refine (hs1 _).mono ?_
  rintro e wghs1 ⟨rfl,bghs1⟩
  have z_14:=bghs1.size
  have rd_15:=rd_11.later bghs1
  have O_16:=O_12.on bghs1
  have res_17:=zab bghs1 res_13
  have tk_18:=zab bghs1 tk_n9
  clear c0 c2 rd_11 O_12 res_13 tk_n9
  have OV:=O_16
  go_wp2_with fail
  refine (kbr _ rd_15).mono ?_
  intro e wv hq
  obtain ⟨cs,ok,rfl,V⟩:=hq.v
  clear hq
  have row:=V.row
  have z_19:=V.heap.size
  have res_20:=V.heap.heap res_17 (by simp <;> omega)
  clear tk_18 rd_15 O_16 res_17
  go_wp2_with (refine zad rfl 28 _ _ rfl w.heap.size cs rfl rfl _ 28 res_20 13 zae rfl row ?_;intro we re oe ze)
  rw [HX.out]
  exact bodyPost_ret (zai Tryz.results357 _ _ w.heap.size 28 cs _ rfl re Tryz.underlying28 rfl 13 zae row.1) rfl (V.hand2 OV (by omega) hbl oe).p
 | false=>
  cases o2 with
  | true=>
   have HX:Hid (RES = RS):=HC
   clear HC
   have O0:=Off.refl [R.b] w
   go_enter Tryz.func357,Tryz.ntmps357
   have a_1:=bZ w
   have zz_1:=fZ w
   have z_2:=a_1.size
   have rd_3:=h.later a_1
   have O_4:=O0.on a_1
   have res_n1:=cZ w
   clear h O0 a_1
   go_wp2_with fail
   refine (hah _ rd_3).mono ?_
   rintro e w1 ⟨rfl,b1⟩
   have z_5:=b1.size
   have rd_6:=rd_3.later b1
   have O_7:=O_4.on b1
   have res_8:=zab b1 res_n1
   clear rd_3 O_4 res_n1
   have a_9:=bal (Below.refl (w1).heap.size (w1)) (.cells (tcs x) 161)
   have zz_9:=zaf (w1) (.cells (tcs x) 161)
   have z_10:=a_9.size
   have rd_11:=rd_6.later a_9
   have O_12:=O_7.on a_9
   have res_13:=zab a_9 res_8
   have tk_n9:=zac (w1) (.cells (tcs x) 161)
   clear rd_6 O_7 res_8 a_9
   go_upto_region 2 with fail
   generalize w1.alloc (.cells (tcs x) 161) = w2 at *
   have c0:=(zaa tk_n9 0).trans rfl
   have c2:=(zaa tk_n9 2).trans rfl
   go_wp2_with (refine zaj rfl 161 _ rfl w1.heap.size (tcs x) 161 rfl tk_n9 _ Tryz.underlying161 rfl 6 zbn rfl ?_)
   refine (hs1 _).mono ?_
   rintro e wghs1 ⟨rfl,bghs1⟩
   have z_14:=bghs1.size
   have rd_15:=rd_11.later bghs1
   have O_16:=O_12.on bghs1
   have res_17:=zab bghs1 res_13
   have tk_18:=zab bghs1 tk_n9
   clear c0 c2 rd_11 O_12 res_13 tk_n9
   go_wp2_with (refine zaj rfl 161 _ rfl w1.heap.size (tcs x) 161 rfl tk_18 _ Tryz.underlying161 rfl 6 zbn rfl ?_)
   refine (hs2 _).mono ?_
   rintro e wghs2 ⟨rfl,bghs2⟩
   have z_19:=bghs2.size
   have rd_20:=rd_15.later bghs2
   have O_21:=O_16.on bghs2
   have res_22:=zab bghs2 res_17
   have tk_23:=zab bghs2 tk_18
   clear rd_15 O_16 res_17 tk_18
   have OV:=O_21
   go_wp2_with fail
   refine (kse _ rd_20).mono ?_
   intro e wv hq
   obtain ⟨cs,ok,rfl,V⟩:=hq.v
   clear hq
   have row:=V.row
   have z_24:=V.heap.size
   have res_25:=V.heap.heap res_22 (by simp <;> omega)
   clear tk_23 rd_20 O_21 res_22
   go_wp2_with (refine zad rfl 28 _ _ rfl w.heap.size cs rfl rfl _ 28 res_25 13 zae rfl row ?_;intro we re oe ze)
   rw [HX.out]
   exact bodyPost_ret (zai Tryz.results357 _ _ w.heap.size 28 cs _ rfl re Tryz.underlying28 rfl 13 zae row.1) rfl (V.hand2 OV (by omega) hbl oe).p
  | false=>
   have HX:Hid (RES = .inl (x.p,71)):=HC
   clear HC
   have O0:=Off.refl [R.b] w
   go_enter Tryz.func357,Tryz.ntmps357
   have a_1:=bZ w
   have zz_1:=fZ w
   have z_2:=a_1.size
   have rd_3:=h.later a_1
   have O_4:=O0.on a_1
   have res_n1:=cZ w
   clear h O0 a_1
   go_wp2_with fail
   refine (hah _ rd_3).mono ?_
   rintro e w1 ⟨rfl,b1⟩
   have z_5:=b1.size
   have rd_6:=rd_3.later b1
   have O_7:=O_4.on b1
   have res_8:=zab b1 res_n1
   clear rd_3 O_4 res_n1
   have a_9:=bal (Below.refl (w1).heap.size (w1)) (.cells (tcs x) 161)
   have zz_9:=zaf (w1) (.cells (tcs x) 161)
   have z_10:=a_9.size
   have rd_11:=rd_6.later a_9
   have O_12:=O_7.on a_9
   have res_13:=zab a_9 res_8
   have tk_n9:=zac (w1) (.cells (tcs x) 161)
   clear rd_6 O_7 res_8 a_9
   go_upto_region 2 with fail
   generalize w1.alloc (.cells (tcs x) 161) = w2 at *
   have c0:=(zaa tk_n9 0).trans rfl
   have c2:=(zaa tk_n9 2).trans rfl
   go_wp2_with (refine zaj rfl 161 _ rfl w1.heap.size (tcs x) 161 rfl tk_n9 _ Tryz.underlying161 rfl 6 zbn rfl ?_)
   refine (hs1 _).mono ?_
   rintro e wghs1 ⟨rfl,bghs1⟩
   have z_14:=bghs1.size
   have rd_15:=rd_11.later bghs1
   have O_16:=O_12.on bghs1
   have res_17:=zab bghs1 res_13
   have tk_18:=zab bghs1 tk_n9
   clear c0 c2 rd_11 O_12 res_13 tk_n9
   go_wp2_with (refine zaj rfl 161 _ rfl w1.heap.size (tcs x) 161 rfl tk_18 _ Tryz.underlying161 rfl 6 zbn rfl ?_)
   refine (hs2 _).mono ?_
   rintro e wghs2 ⟨rfl,bghs2⟩
   have z_19:=bghs2.size
   have rd_20:=rd_15.later bghs2
   have O_21:=O_16.on bghs2
   have res_22:=zab bghs2 res_17
   have tk_23:=zab bghs2 tk_18
   clear rd_15 O_16 res_17 tk_18
   go_wp2_with fail
   refine (krf _ rd_20).mono ?_
   rintro e w4 ⟨rfl,R4,o4⟩
   have z_24:=o4.size
   have O_25:=O_21.trans o4 (by simp <;> omega)
   have res_26:=o4.heap res_22 (by simp <;> omega)
   clear tk_23 rd_20 O_21 res_22
   go_wp2_with (refine zad rfl 28 _ _ rfl w.heap.size zE rfl rfl _ 28 res_26 13 zae rfl rowZ ?_;intro we re oe ze)
   have z_27:=oe.size
   have rd_28:=R4.off oe (by simp <;> omega)
   have O_29:=O_25.trans oe (by simp <;> omega)
   rw [HX.out]
   exact bodyPost_ret (zai Tryz.results357 _ _ w.heap.size 28 zE _ rfl re Tryz.underlying28 rfl 13 zae rfl) rfl ⟨zE,i,rfl,rowZ,rd_28,O_29⟩
set_option maxRecDepth 20000 in
theorem zfg (R:Rc) (dp:Int) (n c:List Tk → Rs Ex) (hN:DeepOK R 307 dp n) (hC:DeepOK R 202 dp c):RunOK R 307 dp (unP R.q n c):=by
 intro w i fp fy h
 have hbl:=h.bl
 have hah:=fun W (hW:Rd R W i dp fp fy)=>zao R hW
 have hsg:=fun W=>zbb (hd R.q (R.T.drop i)) [45] W
 have hhere:=fun W (hW:Rd R W i dp fp fy)=>zdb R hW
 have hpr:=zld R dp c (zin R dp c hC)
 cases hs:sg (hd R.q (R.T.drop i)) [45] with
 | false=>
  have HX:Hid (unP R.q n c (R.T.drop i) = prmP R.q c (R.T.drop i)):=by show _ = _;unfold unP;rw [if_pos hs]
  rw [hs] at hsg
  have kpr:=fun W (hW:Rd R W i dp fp fy)=>hpr W i fp fy hW
  clear hs hpr hN hC
  generalize unP R.q n c (R.T.drop i) = RES at *
  generalize hd R.q (R.T.drop i) = x at *
  have O0:=Off.refl [R.b] w
  go_enter Tryz.func307,Tryz.ntmps307
  have a_1:=bZ w
  have zz_1:=fZ w
  have z_2:=a_1.size
  have rd_3:=h.later a_1
  have O_4:=O0.on a_1
  have res_n1:=cZ w
  clear h O0 a_1
  go_wp2_with fail
  refine (hah _ rd_3).mono ?_
  rintro e w1 ⟨rfl,b1⟩
  have z_5:=b1.size
  have rd_6:=rd_3.later b1
  have O_7:=O_4.on b1
  have res_8:=zab b1 res_n1
  clear rd_3 O_4 res_n1
  go_wp2_with fail
  refine (hsg _).mono ?_
  rintro e w2 ⟨rfl,b2⟩
  have z_9:=b2.size
  have rd_10:=rd_6.later b2
  have O_11:=O_7.on b2
  have res_12:=zab b2 res_8
  clear rd_6 O_7 res_8
  have OV:=O_11
  go_wp2_with fail
  refine (kpr _ rd_10).mono ?_
  intro e wv hq
  obtain ⟨cs,ok,rfl,V⟩:=hq.v
  clear hq
  have row:=V.row
  have z_13:=V.heap.size
  have res_14:=V.heap.heap res_12 (by simp <;> omega)
  clear rd_10 O_11 res_12
  go_wp2_with (refine zad rfl 28 _ _ rfl w.heap.size cs rfl rfl _ 28 res_14 13 zae rfl row ?_;intro we re oe ze)
  rw [HX.out]
  exact bodyPost_ret (zai Tryz.results307 _ _ w.heap.size 28 cs _ rfl re Tryz.underlying28 rfl 13 zae row.1) rfl (V.hand2 OV (by omega) hbl oe).p
 | true=>
  have hi:=zgp h hs
  have htk:=fun W (hW:Rd R W i dp fp fy)=>zbo R hW hi
  have HC:Hid (unP R.q n c (R.T.drop i) = bnd (n (R.T.drop (i + 1))) fun y=>.inr (eNeg (hd R.q (R.T.drop i)).p y.1,y.2)):=by
   show _ = _
   unfold unP
   rw [if_neg (by simp [hs]),List.tail_drop]
  rw [hs] at hsg
  clear hs hpr hC
  generalize unP R.q n c (R.T.drop i) = RES at *
  generalize hd R.q (R.T.drop i) = x at *
  have O0:=Off.refl [R.b] w
  go_enter Tryz.func307,Tryz.ntmps307
  have a_1:=bZ w
  have zz_1:=fZ w
  have z_2:=a_1.size
  have rd_3:=h.later a_1
  have O_4:=O0.on a_1
  have res_n1:=cZ w
  clear h O0 a_1
  go_wp2_with fail
  refine (hah _ rd_3).mono ?_
  rintro e w1 ⟨rfl,b1⟩
  have z_5:=b1.size
  have rd_6:=rd_3.later b1
  have O_7:=O_4.on b1
  have res_8:=zab b1 res_n1
  clear rd_3 O_4 res_n1
  go_wp2_with fail
  refine (hsg _).mono ?_
  rintro e w2 ⟨rfl,b2⟩
  have z_9:=b2.size
  have rd_10:=rd_6.later b2
  have O_11:=O_7.on b2
  have res_12:=zab b2 res_8
  clear rd_6 O_7 res_8
  go_wp2_with fail
  refine (hhere _ rd_10).mono ?_
  rintro e w3 ⟨rfl,b3⟩
  have z_13:=b3.size
  have rd_14:=rd_10.later b3
  have O_15:=O_11.on b3
  have res_16:=zab b3 res_12
  clear rd_10 O_11 res_12
  go_wp2_with fail
  refine (zcf x.p 6 _).mono ?_
  rintro e w4 ⟨rfl,b4⟩
  have z_17:=b4.size
  have rd_18:=rd_14.later b4
  have O_19:=O_15.on b4
  have res_20:=zab b4 res_16
  clear rd_14 O_15 res_16
  have a_21:=bal (Below.refl (w4).heap.size (w4)) (.cells (ndA x.p 6 0 false 0 [] nl 0 false false false false nl nl) 356)
  have zz_21:=zaf (w4) (.cells (ndA x.p 6 0 false 0 [] nl 0 false false false false nl nl) 356)
  have z_22:=a_21.size
  have rd_23:=rd_18.later a_21
  have O_24:=O_19.on a_21
  have res_25:=zab a_21 res_20
  have nd_n21:=zac (w4) (.cells (ndA x.p 6 0 false 0 [] nl 0 false false false false nl nl) 356)
  clear rd_18 O_19 res_20 a_21
  go_upto_region 4 with fail
  generalize w4.alloc (.cells (ndA x.p 6 0 false 0 [] nl 0 false false false false nl nl) 356) = w5 at *
  go_wp2_with fail
  refine (htk _ rd_23).mono ?_
  rintro e w6 ⟨rfl,R6,o6⟩
  have z_26:=o6.size
  have O_27:=O_24.trans o6 (by simp <;> omega)
  have res_28:=o6.heap res_25 (by simp <;> omega)
  have nd_29:=o6.heap nd_n21 (by simp <;> omega)
  clear rd_23 O_24 res_25 nd_n21
  have hc:=hN w6 (i + 1) fp fy R6
  clear hN
  cases hr:n (R.T.drop (i + 1)) with
  | inr y=>
   rw [hr] at hc HC
   obtain ⟨e1,l1⟩:=y
   have HX:Hid (RES = .inr (eNeg x.p e1,l1)):=HC
   clear HC hr
   go_wp2_with fail
   refine hc.mono ?_
   rintro e w7 ⟨cs,j,fp2,fy2,rfl,hl1,t7,R7,o7⟩
   dsimp only at hl1
   subst hl1
   have row:=t7.row
   clear hc
   have z_30:=o7.size
   have O_31:=O_27.trans o7 (by simp <;> omega)
   have res_32:=o7.heap res_28 (by simp <;> omega)
   have nd_33:=o7.heap nd_29 (by simp <;> omega)
   clear R6 O_27 res_28 nd_29
   go_upto_region 6 with (refine zcm (w:=w7) rfl 28 _ _ rfl zE cs rfl rfl 13 zae rfl row ?_;intro w8 l8 b8 s8)
   have z_34:=b8.size
   have rd_35:=R7.later b8
   have O_36:=O_31.on b8
   have res_37:=zab b8 res_32
   have nd_38:=zab b8 nd_33
   have t_39:=t7.later b8
   clear R7 O_31 res_32 nd_33 t7
   go_upto_region 7 with (first | (refine zaj rfl 28 _ rfl w7.heap.size cs 28 rfl l8 _ Tryz.underlying28 rfl 13 zae row.1 ?_) | (refine zmd rfl _ rfl cs rfl row.1 ?_;intro w9 k9 b9 s9) | (refine zdt rfl 26 _ _ rfl w4.heap.size 13 (.slice (some ⟨w8.heap.size,0,none⟩) 1 1) rfl rfl (ndA x.p 6 0 false 0 [] nl 0 false false false false nl nl) 356 (zab b9 nd_38) (by simp) zos rfl (ndA x.p 6 0 false 0 [] nl 0 false false false false nl (.slice (some ⟨w8.heap.size,0,none⟩) 1 1)) rfl ?_;intro w10 nd10 o10 z10))
   have z_40:=b9.size
   have rd_41:=rd_35.later b9
   have O_42:=O_36.on b9
   have res_43:=zab b9 res_37
   have t_44:=t_39.later b9
   clear nd_38 l8 rd_35 O_36 res_37 t_39
   have z_45:=o10.size
   have rd_46:=rd_41.off o10 (by simp <;> omega)
   have O_47:=O_42.trans o10 (by simp <;> omega)
   have res_48:=o10.heap res_43 (by simp <;> omega)
   have t_49:=Tr.off o10 (by simp <;> omega) _ t_44
   have kd_50:=o10.heap k9 (by simp <;> omega)
   clear rd_41 O_42 res_43 t_44 k9
   go_wp2_with (refine zaj rfl 356 _ rfl w4.heap.size (⟨x.p,6,0,false,0,[],nl,0,false,false,false,false,nl,.slice (some ⟨w8.heap.size,0,none⟩) 1 1⟩:Nf).arr 356 rfl nd10 _ Tryz.underlying356 rfl 14 zcd rfl ?_)
   refine (zdd (⟨x.p,6,0,false,0,[],nl,0,false,false,false,false,nl,.slice (some ⟨w8.heap.size,0,none⟩) 1 1⟩:Nf) ⟨⟨_,_,_,rfl⟩,⟨_,_,_,rfl⟩,⟨_,_,_,rfl⟩⟩ _).mono ?_
   rintro e w11 ⟨rfl,b11⟩
   have z_51:=b11.size
   have rd_52:=rd_46.later b11
   have O_53:=O_47.on b11
   have res_54:=zab b11 res_48
   have t_55:=t_49.later b11
   have kd_56:=zab b11 kd_50
   clear nd10 rd_46 O_47 res_48 t_49 kd_50
   go_wp2_with (refine zad rfl 28 _ _ rfl w.heap.size (⟨x.p,6,0,false,0,[],nl,0,false,false,false,false,nl,.slice (some ⟨w8.heap.size,0,none⟩) 1 1⟩:Nf).ex rfl rfl _ 28 res_54 13 zae rfl ⟨rfl,rfl⟩ ?_;intro we re oe ze)
   have z_57:=oe.size
   have rd_58:=rd_52.off oe (by simp <;> omega)
   have O_59:=O_53.trans oe (by simp <;> omega)
   have t_60:=Tr.off oe (by simp <;> omega) _ t_55
   have kd_61:=oe.heap kd_56 (by simp <;> omega)
   rw [HX.out]
   exact bodyPost_ret (zai Tryz.results307 _ _ w.heap.size 28 (⟨x.p,6,0,false,0,[],nl,0,false,false,false,false,nl,.slice (some ⟨w8.heap.size,0,none⟩) 1 1⟩:Nf).ex _ rfl re Tryz.underlying28 rfl 13 zae rfl) rfl ⟨(⟨x.p,6,0,false,0,[],nl,0,false,false,false,false,nl,.slice (some ⟨w8.heap.size,0,none⟩) 1 1⟩:Nf).ex,j,fp2,fy2,rfl,rfl,Tr.kid1 (Sl.nil _ _ _) (Sl.nil _ _ _) kd_61 (by omega) (Tr.lower (by omega) _ t_60),rd_58,O_59⟩
  | inl er=>
   rw [hr] at hc HC
   have HX:Hid (RES = .inl er):=HC
   clear HC hr
   go_wp2_with fail
   refine hc.mono ?_
   rintro e w7 ⟨cs,j,rfl,row,R7,o7⟩
   clear hc
   have z_30:=o7.size
   have O_31:=O_27.trans o7 (by simp <;> omega)
   have res_32:=o7.heap res_28 (by simp <;> omega)
   have nd_33:=o7.heap nd_29 (by simp <;> omega)
   clear R6 O_27 res_28 nd_29
   go_upto_region 6 with (refine zcm (w:=w7) rfl 28 _ _ rfl zE cs rfl rfl 13 zae rfl row ?_;intro w8 l8 b8 s8)
   have z_34:=b8.size
   have rd_35:=R7.later b8
   have O_36:=O_31.on b8
   have res_37:=zab b8 res_32
   have nd_38:=zab b8 nd_33
   clear R7 O_31 res_32 nd_33
   go_upto_region 7 with (first | (refine zaj rfl 28 _ rfl w7.heap.size cs 28 rfl l8 _ Tryz.underlying28 rfl 13 zae row.1 ?_) | (refine zmd rfl _ rfl cs rfl row.1 ?_;intro w9 k9 b9 s9) | (refine zdt rfl 26 _ _ rfl w4.heap.size 13 (.slice (some ⟨w8.heap.size,0,none⟩) 1 1) rfl rfl (ndA x.p 6 0 false 0 [] nl 0 false false false false nl nl) 356 (zab b9 nd_38) (by simp) zos rfl (ndA x.p 6 0 false 0 [] nl 0 false false false false nl (.slice (some ⟨w8.heap.size,0,none⟩) 1 1)) rfl ?_;intro w10 nd10 o10 z10))
   have z_39:=b9.size
   have rd_40:=rd_35.later b9
   have O_41:=O_36.on b9
   have res_42:=zab b9 res_37
   clear nd_38 l8 rd_35 O_36 res_37
   have z_43:=o10.size
   have rd_44:=rd_40.off o10 (by simp <;> omega)
   have O_45:=O_41.trans o10 (by simp <;> omega)
   have res_46:=o10.heap res_42 (by simp <;> omega)
   have kd_47:=o10.heap k9 (by simp <;> omega)
   clear rd_40 O_41 res_42 k9
   go_wp2_with (refine zaj rfl 356 _ rfl w4.heap.size (⟨x.p,6,0,false,0,[],nl,0,false,false,false,false,nl,.slice (some ⟨w8.heap.size,0,none⟩) 1 1⟩:Nf).arr 356 rfl nd10 _ Tryz.underlying356 rfl 14 zcd rfl ?_)
   refine (zdd (⟨x.p,6,0,false,0,[],nl,0,false,false,false,false,nl,.slice (some ⟨w8.heap.size,0,none⟩) 1 1⟩:Nf) ⟨⟨_,_,_,rfl⟩,⟨_,_,_,rfl⟩,⟨_,_,_,rfl⟩⟩ _).mono ?_
   rintro e w11 ⟨rfl,b11⟩
   have z_48:=b11.size
   have rd_49:=rd_44.later b11
   have O_50:=O_45.on b11
   have res_51:=zab b11 res_46
   have kd_52:=zab b11 kd_47
   clear nd10 rd_44 O_45 res_46 kd_47
   go_wp2_with (refine zad rfl 28 _ _ rfl w.heap.size (⟨x.p,6,0,false,0,[],nl,0,false,false,false,false,nl,.slice (some ⟨w8.heap.size,0,none⟩) 1 1⟩:Nf).ex rfl rfl _ 28 res_51 13 zae rfl ⟨rfl,rfl⟩ ?_;intro we re oe ze)
   have z_53:=oe.size
   have rd_54:=rd_49.off oe (by simp <;> omega)
   have O_55:=O_50.trans oe (by simp <;> omega)
   have kd_56:=oe.heap kd_52 (by simp <;> omega)
   rw [HX.out]
   exact bodyPost_ret (zai Tryz.results307 _ _ w.heap.size 28 (⟨x.p,6,0,false,0,[],nl,0,false,false,false,false,nl,.slice (some ⟨w8.heap.size,0,none⟩) 1 1⟩:Nf).ex _ rfl re Tryz.underlying28 rfl 13 zae rfl) rfl ⟨(⟨x.p,6,0,false,0,[],nl,0,false,false,false,false,nl,.slice (some ⟨w8.heap.size,0,none⟩) 1 1⟩:Nf).ex,j,rfl,⟨rfl,rfl⟩,rd_54,O_55⟩
end Go.Proofs.YtjlaihekocjggaaGreatDoor
