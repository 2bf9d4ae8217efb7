/- Texts that the others lean on. -/
import Derived.Deep.WholeRow
import Derived.Laws.StructEq
import Derived.Test.YtjlaihekocjggaaGreatDoorKMC
set_option maxHeartbeats 16000000
namespace Go.Proofs.YtjlaihekocjggaaGreatDoor
open Go.RowKit
def modOut (R:Rc) (w:World) (nb:Nat) (f:Nf) (dp:Int) (res:Rs Md) (e:Ending) (w':World):Prop:=
 match res with
 | .inr x=>∃ an n cn j fp fy,e = .returned (.bool true) ∧ x.2 = R.T.drop j ∧ Rd R w' j dp fp fy ∧ w'.heap[nb]? = some (.cells ({ f with b3:=x.1.on,b4:=x.1.ig,n:=.slice an n cn }:Nf).arr 356) ∧ Sl w' w.heap.size (.slice an n cn) x.1.ns.length (x.1.ns.map tx) ∧ Off [R.b,nb] w w'
 | .inl er=>∃ b3 b4 an n cn j,e = .returned (.bool false) ∧ Rd R w' j dp er.1 er.2 ∧ w'.heap[nb]? = some (.cells ({ f with b3:=b3,b4:=b4,n:=.slice an n cn }:Nf).arr 356) ∧ Off [R.b,nb] w w'
def HeldX (xb:Nat) (t:Str) (W:World):Prop:=W.cell? ⟨xb,2,none⟩ = some (tx t)
set_option maxRecDepth 20000 in
theorem zjm (R:Rc) {w:World} {nb:Nat} {f:Nf} {i:Nat} {dp fp fy:Int} (h:Rd R w i dp fp fy) (hn:w.heap[nb]? = some (.cells f.arr 356)) (hb:R.b < nb) (hf1:f.n = nl) (hf2:f.b3 = false) (hf3:f.b4 = false) :
  Calls Tryz.prog 362 #[R.ptr,.pointer (some ⟨nb,0,none⟩)] w (modOut R w nb f dp (modP R.q (R.T.drop i))):=by
 have hnl:=zah hn
 have hah:=fun W (hW:Rd R W i dp fp fy)=>zao R hW
 have hah1:=fun W (hW:Rd R W i dp fp fy)=>zhq R hW
 have O0:=Off.refl [R.b,nb] w
 have hid:({ f with b3:=false,b4:=false,n:=nl }:Nf) = f:=by cases f;simp only at hf1 hf2 hf3;subst hf1 hf2 hf3;rfl
 have hmd:=fun W=>zga (hd R.q (R.T.drop i)).t W
 have hsg:=fun W=>zbb (hd R.q (R.T.drop (i + 1))) [40] W
 by_cases hk:(hd R.q (R.T.drop i)).k = 1
 ·
  have hk1:((hd R.q (R.T.drop i)).k != 1) = false:=by rw [bne_eq_false_iff_eq];exact hk
  have hi:=zih h (by rw [hk];decide)
  cases hm:isModB (hd R.q (R.T.drop i)).t with
  | false=>
   have e:modP R.q (R.T.drop i) = .inr (⟨false,false,[]⟩,R.T.drop i):=by unfold modP hasMod;rw [if_pos (by simp [hm])]
   rw [e]
   rw [hm] at hmd
   clear e hk hm
   generalize hd R.q (R.T.drop i) = x at *
   go_enter Tryz.func362,Tryz.ntmps362
   go_wp2_with fail
   refine (hah _ h).mono ?_
   rintro e w1 ⟨rfl,b1⟩
   have z_1:=b1.size
   have rd_2:=h.later b1
   have nd_3:=zab b1 hn
   have O_4:=O0.on b1
   clear h hn O0
   have a_5:=bal (Below.refl (w1).heap.size (w1)) (.cells (tcs x) 161)
   have zz_5:=zaf (w1) (.cells (tcs x) 161)
   have z_6:=a_5.size
   have rd_7:=rd_2.later a_5
   have nd_8:=zab a_5 nd_3
   have O_9:=O_4.on a_5
   have tk_n5:=zac (w1) (.cells (tcs x) 161)
   clear rd_2 nd_3 O_4 a_5
   go_upto_region 2 with fail
   generalize w1.alloc (.cells (tcs x) 161) = w2 at *
   have c0:=(zaa tk_n5 0).trans rfl
   have c2:=(zaa tk_n5 2).trans rfl
   go_wp2_with fail
   refine (hmd _).mono ?_
   rintro e w3 ⟨rfl,rfl⟩
   go_wp2_with fail
   go_ret
   exact ⟨none,0,0,i,fp,fy,rfl,rfl,rd_7,by rw [nd_8,hid],Sl.nil _ _ _,O_9⟩
  | true=>
   rw [hm] at hmd
   cases hs:sg (hd R.q (R.T.drop (i + 1))) [40] with
   | false=>
    have e:modP R.q (R.T.drop i) = .inr (⟨false,false,[]⟩,R.T.drop i):=by unfold modP hasMod;rw [List.tail_drop,if_pos (by simp [hs])]
    rw [e]
    rw [hs] at hsg
    clear e hk hm hs
    generalize hd R.q (R.T.drop i) = x at *
    generalize hd R.q (R.T.drop (i + 1)) = y at *
    go_enter Tryz.func362,Tryz.ntmps362
    go_wp2_with fail
    refine (hah _ h).mono ?_
    rintro e w1 ⟨rfl,b1⟩
    have z_1:=b1.size
    have rd_2:=h.later b1
    have nd_3:=zab b1 hn
    have O_4:=O0.on b1
    clear h hn O0
    have a_5:=bal (Below.refl (w1).heap.size (w1)) (.cells (tcs x) 161)
    have zz_5:=zaf (w1) (.cells (tcs x) 161)
    have z_6:=a_5.size
    have rd_7:=rd_2.later a_5
    have nd_8:=zab a_5 nd_3
    have O_9:=O_4.on a_5
    have tk_n5:=zac (w1) (.cells (tcs x) 161)
    clear rd_2 nd_3 O_4 a_5
    go_upto_region 2 with fail
    generalize w1.alloc (.cells (tcs x) 161) = w2 at *
    have c0:=(zaa tk_n5 0).trans rfl
    have c2:=(zaa tk_n5 2).trans rfl
    go_wp2_with fail
    refine (hmd _).mono ?_
    rintro e w3 ⟨rfl,rfl⟩
    go_wp2_with fail
    refine (hah1 _ rd_7).mono ?_
    rintro e w3 ⟨rfl,b3⟩
    have z_10:=b3.size
    have rd_11:=rd_7.later b3
    have nd_12:=zab b3 nd_8
    have O_13:=O_9.on b3
    have tk_14:=zab b3 tk_n5
    clear c0 c2 rd_7 nd_8 O_9 tk_n5
    go_wp2_with fail
    refine (hsg _).mono ?_
    rintro e w4 ⟨rfl,b4⟩
    have z_15:=b4.size
    have rd_16:=rd_11.later b4
    have nd_17:=zab b4 nd_12
    have O_18:=O_13.on b4
    have tk_19:=zab b4 tk_14
    clear rd_11 nd_12 O_13 tk_14
    go_wp2_with fail
    go_ret
    exact ⟨none,0,0,i,fp,fy,rfl,rfl,rd_16,by rw [nd_17,hid],Sl.nil _ _ _,O_18⟩
   | true=>
    have HM:Hid (modP R.q (R.T.drop i) = bnd (nmP R.q (R.T.drop (i + 1))) fun x=>.inr (⟨(hd R.q (R.T.drop i)).t == wOn,(hd R.q (R.T.drop i)).t == wIgn,x.1⟩,x.2)):=by
     show _ = _
     unfold modP hasMod
     rw [List.tail_drop,if_neg (by simp [hk,hm,hs])]
    generalize modP R.q (R.T.drop i) = RES at *
    rw [hs] at hsg
    have htk:=fun W (hW:Rd R W i dp fp fy)=>zbo R hW hi
    clear hk hm hs
    generalize hd R.q (R.T.drop i) = x at *
    generalize hd R.q (R.T.drop (i + 1)) = y at *
    unfold wOn wIgn at HM
    go_enter Tryz.func362,Tryz.ntmps362
    go_wp2_with fail
    refine (hah _ h).mono ?_
    rintro e w1 ⟨rfl,b1⟩
    have z_1:=b1.size
    have rd_2:=h.later b1
    have nd_3:=zab b1 hn
    have O_4:=O0.on b1
    clear h hn O0
    have a_5:=bal (Below.refl (w1).heap.size (w1)) (.cells (tcs x) 161)
    have zz_5:=zaf (w1) (.cells (tcs x) 161)
    have z_6:=a_5.size
    have rd_7:=rd_2.later a_5
    have nd_8:=zab a_5 nd_3
    have O_9:=O_4.on a_5
    have tk_n5:=zac (w1) (.cells (tcs x) 161)
    clear rd_2 nd_3 O_4 a_5
    go_upto_region 2 with fail
    generalize w1.alloc (.cells (tcs x) 161) = w2 at *
    have c0:=(zaa tk_n5 0).trans rfl
    have c2:=(zaa tk_n5 2).trans rfl
    go_wp2_with fail
    refine (hmd _).mono ?_
    rintro e w3 ⟨rfl,rfl⟩
    go_wp2_with fail
    refine (hah1 _ rd_7).mono ?_
    rintro e w3 ⟨rfl,b3⟩
    have z_10:=b3.size
    have rd_11:=rd_7.later b3
    have nd_12:=zab b3 nd_8
    have O_13:=O_9.on b3
    have tk_14:=zab b3 tk_n5
    clear c0 c2 rd_7 nd_8 O_9 tk_n5
    go_wp2_with fail
    refine (hsg _).mono ?_
    rintro e w4 ⟨rfl,b4⟩
    have z_15:=b4.size
    have rd_16:=rd_11.later b4
    have nd_17:=zab b4 nd_12
    have O_18:=O_13.on b4
    have tk_19:=zab b4 tk_14
    clear rd_11 nd_12 O_13 tk_14
    go_wp2_with fail
    refine (htk _ rd_16).mono ?_
    rintro e w5 ⟨rfl,R5,o5⟩
    have z_20:=o5.size
    have nd_21:=o5.heap nd_17 (by simp <;> omega)
    have O_22:=O_18.trans o5 (by simp <;> omega)
    have tk_23:=o5.heap tk_19 (by simp <;> omega)
    clear rd_16 nd_17 O_18 tk_19
    go_upto_region 5 with fail
    have dr:=zag w5
    have z_24:=dr.size
    have rd_25:=R5.later dr
    have nd_26:=zab dr nd_21
    have O_27:=O_22.on dr
    have tk_28:=zab dr tk_23
    have S6:HeldX w1.heap.size x.t (World.drew w5):=(zaa tk_28 2).trans rfl
    refine wp_region_noPanic ?_
    refine wp_region_held_drew (S:=HeldX w1.heap.size x.t) (by kernel_rfl) ?_ (fun _=>?_)
    ·
     exact S6
    clear R5 nd_21 O_22 tk_23 dr
    generalize w5.drew = w6 at *
    generalize hq1:(x.t == [111,110]) = q1 at *
    generalize hq2:(x.t == [105,103,110,111,114,105,110,103]) = q2 at *
    refine tk 0 25 (.pointer (some ⟨nb,0,none⟩)) rfl (fun W hSw=>by go_simp) S6 ?_
    simp only [Act.put,pB,pC,pD]
    refine tk 1 26 (.pointer (some ⟨nb,0,none⟩)) rfl (fun W hSw=>by go_simp) S6 ?_
    simp only [Act.put,pB,pC,pD]
    refine tk 2 27 (.pointer (some ⟨w1.heap.size,2,none⟩)) rfl (fun W hSw=>by go_simp) S6 ?_
    simp only [Act.put,pB,pC,pD]
    refine tk 3 28 (tx x.t) rfl (fun W hSw=>by (have s1:World.cell? W ⟨w1.heap.size,2,none⟩ = some (tx x.t):=hSw;go_simp)) S6 ?_
    simp only [Act.put,pB,pC,pD]
    refine tk 4 29 (.bool q1) rfl (fun W hSw=>by go_simp) S6 ?_
    simp only [Act.put,pB,pC,pD]
    refine tk 5 30 (.pointer (some ⟨w1.heap.size,2,none⟩)) rfl (fun W hSw=>by go_simp) S6 ?_
    simp only [Act.put,pB,pC,pD]
    refine tk 6 31 (tx x.t) rfl (fun W hSw=>by (have s1:World.cell? W ⟨w1.heap.size,2,none⟩ = some (tx x.t):=hSw;go_simp)) S6 ?_
    simp only [Act.put,pB,pC,pD]
    refine tk 7 32 (.bool q2) rfl (fun W hSw=>by go_simp) S6 ?_
    simp only [Act.put,pB,pC,pD]
    refine tk 8 33 (.pointer (some ⟨nb,0,none⟩)) rfl (fun W hSw=>by go_simp) S6 ?_
    simp only [Act.put,pB,pC,pD]
    refine tk 9 34 (.pointer (some ⟨nb,1,none⟩)) rfl (fun W hSw=>by go_simp) S6 ?_
    simp only [Act.put,pB,pC,pD]
    refine tk 10 35 (.pointer (some ⟨nb,10,none⟩)) rfl (fun W hSw=>by go_simp) S6 ?_
    simp only [Act.put,pB,pC,pD]
    refine wpAnyH_ready (rs:=[11]) (by kernel_rfl) (by simp) ?_
    refine aR rfl fun K hK=>?_
    refine zbv 4 _ _ none rfl rfl (by rfl) nb 10 (.bool q1) rfl rfl f.arr 356 nd_26 (by simp) inf4 rfl ({ f with b3:=q1 }:Nf).arr rfl ?_
    intro w7 nd7 o7 z7
    have z_29:=o7.size
    have rd_30:=rd_25.off o7 (by simp <;> omega)
    have O_31:=O_27.trans o7 (by simp <;> omega)
    have tk_32:=o7.heap tk_28 (by simp <;> omega)
    have S7:HeldX w1.heap.size x.t w7:=(zaa tk_32 2).trans rfl
    refine hK.out _ _ ?_ (fun _=>?_)
    ·
     exact S7
    clear hK K
    clear nd_26 rd_25 O_27 tk_28 S6
    refine tk 12 36 (.pointer (some ⟨nb,0,none⟩)) rfl (fun W hSw=>by go_simp) S7 ?_
    simp only [Act.put,pB,pC,pD]
    refine tk 13 37 (.pointer (some ⟨nb,1,none⟩)) rfl (fun W hSw=>by go_simp) S7 ?_
    simp only [Act.put,pB,pC,pD]
    refine tk 14 38 (.pointer (some ⟨nb,11,none⟩)) rfl (fun W hSw=>by go_simp) S7 ?_
    simp only [Act.put,pB,pC,pD]
    refine wpAnyH_ready (rs:=[15]) (by kernel_rfl) (by simp) ?_
    refine aR rfl fun K hK=>?_
    refine zbv 4 _ _ none rfl rfl (by rfl) nb 11 (.bool q2) rfl rfl ({ f with b3:=q1 }:Nf).arr 356 nd7 (by simp) inf4 rfl ({ f with b3:=q1,b4:=q2 }:Nf).arr rfl ?_
    intro w8 nd8 o8 z8
    have z_33:=o8.size
    have rd_34:=rd_30.off o8 (by simp <;> omega)
    have O_35:=O_31.trans o8 (by simp <;> omega)
    have tk_36:=o8.heap tk_32 (by simp <;> omega)
    have S8:HeldX w1.heap.size x.t w8:=(zaa tk_36 2).trans rfl
    refine hK.out _ _ ?_ (fun _=>?_)
    ·
     exact S8
    clear hK K
    clear nd7 rd_30 O_31 tk_32 tk_36 S7 S8
    refine wpAnyH_done (by kernel_rfl) ?_ _
    refine NoPanic.normal ?_
    have hnm:=zjl R (nb:=nb) (f:={ f with b3:=q1,b4:=q2 }) rd_34 nd8 hb hf1
    cases hr:nmP R.q (R.T.drop (i + 1)) with
    | inr y2=>
     obtain ⟨ns,l2⟩:=y2
     rw [hr] at hnm HM
     have HX:Hid (RES = .inr (⟨q1,q2,ns⟩,l2)):=HM
     clear HM hr
     go_wp2_with fail
     refine hnm.mono ?_
     rintro e w9 ⟨an,n,cn,j,fp9,fy9,rfl,hyl,R9,nd9,sl9,o9⟩
     have z_37:=o9.size
     have O_38:=O_35.trans o9 (by simp <;> omega)
     clear nd8 hnm rd_34 O_35
     go_wp2_with fail
     go_ret
     rw [HX.out]
     exact ⟨an,n,cn,j,fp9,fy9,rfl,hyl,R9,nd9,sl9.lower (by omega),O_38⟩
    | inl er=>
     rw [hr] at hnm HM
     have HX:Hid (RES = .inl er):=HM
     clear HM hr
     go_wp2_with fail
     refine hnm.mono ?_
     rintro e w9 ⟨an,n,cn,j,rfl,R9,nd9,o9⟩
     have z_37:=o9.size
     have O_38:=O_35.trans o9 (by simp <;> omega)
     clear nd8 hnm rd_34 O_35
     go_wp2_with fail
     go_ret
     rw [HX.out]
     exact ⟨q1,q2,an,n,cn,j,rfl,R9,nd9,O_38⟩
 have hk1:((hd R.q (R.T.drop i)).k != 1) = true:=by rw [bne_iff_ne];exact hk
 have e:modP R.q (R.T.drop i) = .inr (⟨false,false,[]⟩,R.T.drop i):=by unfold modP hasMod;rw [if_pos (by simp [hk])]
 rw [e]
 clear e hk
 generalize hd R.q (R.T.drop i) = x at *
 go_enter Tryz.func362,Tryz.ntmps362
 go_wp2_with fail
 refine (hah _ h).mono ?_
 rintro e w1 ⟨rfl,b1⟩
 have z_1:=b1.size
 have rd_2:=h.later b1
 have nd_3:=zab b1 hn
 have O_4:=O0.on b1
 clear h hn O0
 have a_5:=bal (Below.refl (w1).heap.size (w1)) (.cells (tcs x) 161)
 have zz_5:=zaf (w1) (.cells (tcs x) 161)
 have z_6:=a_5.size
 have rd_7:=rd_2.later a_5
 have nd_8:=zab a_5 nd_3
 have O_9:=O_4.on a_5
 have tk_n5:=zac (w1) (.cells (tcs x) 161)
 clear rd_2 nd_3 O_4 a_5
 go_upto_region 2 with fail
 generalize w1.alloc (.cells (tcs x) 161) = w2 at *
 have c0:=(zaa tk_n5 0).trans rfl
 have c2:=(zaa tk_n5 2).trans rfl
 go_wp2_with fail
 go_ret
 exact ⟨none,0,0,i,fp,fy,rfl,rfl,rd_7,by rw [nd_8,hid],Sl.nil _ _ _,O_9⟩
def OutV (R:Rc) (lo:Nat) (w:World) (dp:Int) (res:Rs Ex) (cs:Array Value) (ok:Bool) (w':World):Prop:=
 match res with
 | .inr x=>ok = true ∧ ∃ j fp fy,x.2 = R.T.drop j ∧ Tr lo w' x.1 cs ∧ Rd R w' j dp fp fy ∧ Off [R.b] w w'
 | .inl er=>ok = false ∧ ∃ j,Row 13 cs ∧ Rd R w' j dp er.1 er.2 ∧ Off [R.b] w w'
theorem OutP.v {R:Rc} {w:World} {dp:Int} {res:Rs Ex} {e:Ending} {w':World} (h:OutP R w dp res e w'):∃ cs ok,e = .returned (.tuple #[.agg cs,.bool ok]) ∧ OutV R w.heap.size w dp res cs ok w':=by
 cases res with
 | inr x=>
  obtain ⟨cs,j,fp,fy,e,h1,h2,h3,h4⟩:=h
  exact ⟨cs,true,e,rfl,j,fp,fy,h1,h2,h3,h4⟩
 | inl er=>
  obtain ⟨cs,j,e,h2,h3,h4⟩:=h
  exact ⟨cs,false,e,rfl,j,h2,h3,h4⟩
theorem OutV.p {R:Rc} {w:World} {dp:Int} {res:Rs Ex} {cs:Array Value} {ok:Bool} {w':World} (h:OutV R w.heap.size w dp res cs ok w'):OutP R w dp res (.returned (.tuple #[.agg cs,.bool ok])) w':=by
 cases res with
 | inr x=>
  obtain ⟨rfl,j,fp,fy,h1,h2,h3,h4⟩:=h
  exact ⟨cs,j,fp,fy,rfl,h1,h2,h3,h4⟩
 | inl er=>
  obtain ⟨rfl,j,h2,h3,h4⟩:=h
  exact ⟨cs,j,rfl,h2,h3,h4⟩
theorem OutV.row {R:Rc} {lo:Nat} {w:World} {dp:Int} {res:Rs Ex} {cs:Array Value} {ok:Bool} {w':World} (h:OutV R lo w dp res cs ok w'):Row 13 cs:=by
 cases res with
 | inr x=>
  obtain ⟨_,j,fp,fy,h1,h2,h3,h4⟩:=h
  exact h2.row
 | inl er=>
  obtain ⟨_,j,h2,h3,h4⟩:=h
  exact h2
theorem OutV.up {R:Rc} {lo lo':Nat} {w w0:World} {dp:Int} {res:Rs Ex} {cs:Array Value} {ok:Bool} {w':World} (h:OutV R lo w dp res cs ok w') (hO:Off [R.b] w0 w) (hl:lo' ≤ lo):OutV R lo' w0 dp res cs ok w':=by
 cases res with
 | inr x=>
  obtain ⟨h0,j,fp,fy,h1,h2,h3,h4⟩:=h
  exact ⟨h0,j,fp,fy,h1,Tr.lower hl _ h2,h3,hO.then h4⟩
 | inl er=>
  obtain ⟨h0,j,h2,h3,h4⟩:=h
  exact ⟨h0,j,h2,h3,hO.then h4⟩
theorem OutV.off {R:Rc} {lo:Nat} {X:List Nat} {w:World} {dp:Int} {res:Rs Ex} {cs:Array Value} {ok:Bool} {w' w'':World} (h:OutV R lo w dp res cs ok w') (ho:Off X w' w'') (hX:∀ x ∈ X,R.b < x ∧ x < lo ∧ w.heap.size ≤ x):OutV R lo w dp res cs ok w'':=by
 cases res with
 | inr x=>
  obtain ⟨h0,j,fp,fy,h1,h2,h3,h4⟩:=h
  exact ⟨h0,j,fp,fy,h1,Tr.off ho (fun x hx=>(hX x hx).2.1) _ h2,h3.off ho (fun x hx=>(hX x hx).1),h4.trans ho (fun x hx=>Or.inr (hX x hx).2.2)⟩
 | inl er=>
  obtain ⟨h0,j,h2,h3,h4⟩:=h
  exact ⟨h0,j,h2,h3.off ho (fun x hx=>(hX x hx).1),h4.trans ho (fun x hx=>Or.inr (hX x hx).2.2)⟩
theorem OutV.heap {R:Rc} {lo:Nat} {w:World} {dp:Int} {res:Rs Ex} {cs:Array Value} {ok:Bool} {w':World} (h:OutV R lo w dp res cs ok w'):Off [R.b] w w':=by
 cases res with
 | inr x=>
  obtain ⟨h0,j,fp,fy,h1,h2,h3,h4⟩:=h
  exact h4
 | inl er=>
  obtain ⟨h0,j,h2,h3,h4⟩:=h
  exact h4
def RunOK (R:Rc) (F:Nat) (dp:Int) (sp:List Tk → Rs Ex):Prop:=∀ (w:World) (i:Nat) (fp fy:Int),Rd R w i dp fp fy → Calls Tryz.prog F #[R.ptr] w (OutP R w dp (sp (R.T.drop i)))
def DeepOK (R:Rc) (F:Nat) (dp:Int) (sp:List Tk → Rs Ex):Prop:=∀ (w:World) (i:Nat) (fp fy:Int),Rd R w i dp fp fy → Calls Tryz.prog 360 #[R.ptr,.func (.func F) #[R.ptr] #[]] w (OutP R w dp (sp (R.T.drop i)))
theorem zcm {w:World} {ops:Array Oper} {rest:List Oper} {o:Oper} {a:Act} {Q:Exit → Act → World → Prop} (hgd:o.guard = none) (ty:TypeId) (x y:Operand) (ho:o.op = .store ty x y) (z cs:Array Value)
  (hx:a.eval x = .pointer (some ⟨w.heap.size,0,none⟩)) (hy:a.eval y = .agg cs) (n:Nat) (hi:(Tryz.prog.info? ty).map (·.size) = some n) (hz:z.size = n) (hr:Row n cs)
  (h:∀ W,W.heap[w.heap.size]? = some (.cells cs ty) → Below w.heap.size w W → w.heap.size + 1 ≤ W.heap.size → wpList Tryz.prog ops Q rest (a.put o.dst undef) W):wpList Tryz.prog ops Q (o :: rest) a (w.alloc (.cells z ty)):=by
 refine wpList_store_row hgd ty x y ho w.heap.size cs hx hy ty z (zac w _) (by rw [hi,hr.1]) (by rw [hz,hr.1]) hr.all ?_
 rw [World.setRow_alloc_new]
 exact h _ (zac w _) (bal (Below.refl _ _) _) (zaf _ _)
theorem OutV.rd {R:Rc} {lo:Nat} {w:World} {dp:Int} {res:Rs Ex} {cs:Array Value} {ok:Bool} {w':World} (h:OutV R lo w dp res cs ok w'):∃ j fp fy,Rd R w' j dp fp fy:=by
 cases res with
 | inr x=>
  obtain ⟨h0,j,fp,fy,h1,h2,h3,h4⟩:=h
  exact ⟨j,fp,fy,h3⟩
 | inl er=>
  obtain ⟨h0,j,h2,h3,h4⟩:=h
  exact ⟨j,_,_,h3⟩
theorem OutV.depth {R:Rc} {lo:Nat} {w:World} {dp dp':Int} {res:Rs Ex} {cs:Array Value} {ok:Bool} {w' w'':World} (h:OutV R lo w dp res cs ok w') (hl:R.b < lo) (ho:Off [R.b] w' w'') (hd:∀ j fp fy,Rd R w' j dp fp fy → Rd R w'' j dp' fp fy):OutV R lo w dp' res cs ok w'':=by
 cases res with
 | inr x=>
  obtain ⟨h0,j,fp,fy,h1,h2,h3,h4⟩:=h
  exact ⟨h0,j,fp,fy,h1,Tr.off ho (by simp;omega) _ h2,hd _ _ _ h3,h4.then ho⟩
 | inl er=>
  obtain ⟨h0,j,h2,h3,h4⟩:=h
  exact ⟨h0,j,h2,hd _ _ _ h3,h4.then ho⟩
theorem OutV.later {R:Rc} {lo:Nat} {w:World} {dp:Int} {res:Rs Ex} {cs:Array Value} {ok:Bool} {w' w'':World} (h:OutV R lo w dp res cs ok w') (hb:Below w'.heap.size w' w''):OutV R lo w dp res cs ok w'':=h.off (Off.of hb []) (fun _ hx=>by cases hx)
set_option maxRecDepth 20000 in
theorem deep141_0 (R:Rc):DeepOK R 307 15 (deep R.q):=by
 intro w i fp fy h
 have hbl:=h.bl
 have hrf:=fun W (hW:Rd R W i 15 fp fy)=>zba R 72 hW
 go_enter Tryz.func360,Tryz.ntmps360
 have O0:=Off.refl [R.b] w
 have a_1:=bZ w
 have zz_1:=fZ w
 have z_2:=a_1.size
 have rd_3:=h.later a_1
 have O_4:=O0.on a_1
 have res_n1:=cZ w
 clear h O0 a_1
 have c3:=rd_3.c3
 go_wp2_with fail
 refine (hrf _ rd_3).mono ?_
 rintro e w1 ⟨rfl,R1,o1⟩
 have z_5:=o1.size
 have O_6:=O_4.trans o1 (by simp <;> omega)
 have res_7:=o1.heap res_n1 (by simp <;> omega)
 clear c3 rd_3 O_4 res_n1
 go_wp2_with (refine zad rfl 28 _ _ rfl w.heap.size zE rfl rfl _ 28 res_7 13 zae rfl rowZ ?_;intro we re oe ze)
 have z_8:=oe.size
 have rd_9:=R1.off oe (by simp <;> omega)
 have O_10:=O_6.trans oe (by simp <;> omega)
 exact bodyPost_ret (zai Tryz.results360 _ _ w.heap.size 28 zE _ rfl re Tryz.underlying28 rfl 13 zae rfl) rfl ⟨zE,i,rfl,rowZ,rd_9,O_10⟩
set_option maxRecDepth 20000 in
theorem deep141_s (R:Rc) (dp:Int) (sp:List Tk → Rs Ex) (h0:0 ≤ dp) (h15:dp < 15) (hin:RunOK R 307 (dp + 1) sp):DeepOK R 307 dp sp:=by
 intro w i fp fy h
 have hbl:=h.bl
 have ht:(dp == 15) = false:=beq_eq_false_iff_ne.2 (by omega)
 have h15':dp ≤ 14:=by omega
 clear h15
 go_enter Tryz.func360,Tryz.ntmps360
 have O0:=Off.refl [R.b] w
 have a_1:=bZ w
 have zz_1:=fZ w
 have z_2:=a_1.size
 have rd_3:=h.later a_1
 have O_4:=O0.on a_1
 have res_n1:=cZ w
 clear h O0 a_1
 have c3:=rd_3.c3
 have f3:=rd_3.fz 3
 go_upto_region 3 with fail
 generalize w.alloc (.cells zE 28) = w1 at *
 go_upto_region 4 with fail
 have s2:=zbe rd_3.h 3 (.int .i64 (dp + 1))
 have o2:=zbr w1 R.b 3 (.int .i64 (dp + 1))
 generalize w1.setCell ⟨R.b,3,none⟩ (.int .i64 (dp + 1)) = w2 at *
 have R2:=rd_3.put (j:=i) o2 rd_3.ib s2
 clear c3 f3 s2
 have z_5:=o2.size
 have O_6:=O_4.trans o2 (by simp <;> omega)
 have res_7:=o2.heap res_n1 (by simp <;> omega)
 clear rd_3 O_4 res_n1
 have OW:=O_6
 have hc:=hin w2 i fp fy R2
 clear hin
 go_wp2_with fail
 refine hc.mono ?_
 intro e w3 hq
 obtain ⟨cs,ok,rfl,V⟩:=hq.v
 clear hq hc
 have row:=V.row
 have z_8:=V.heap.size
 have O_9:=O_6.trans V.heap (by simp <;> omega)
 have res_10:=V.heap.heap res_7 (by simp <;> omega)
 clear R2 O_6 res_7
 have V':=V
 obtain ⟨j,fp3,fy3,R3⟩:=V'.rd
 clear V'
 go_upto_region 5 with (refine zcm (w:=w3) rfl 28 _ _ rfl zE cs rfl rfl 13 zae rfl row ?_;intro w4 l4 b4 s4)
 have z_11:=b4.size
 have O_12:=O_9.on b4
 have res_13:=zab b4 res_10
 have rd_14:=R3.later b4
 have V_15:=V.later b4
 clear O_9 res_10 R3 V
 have c3:=rd_14.c3
 have f3:=rd_14.fz 3
 have e1:dp + 1 - 1 = dp:=by omega
 go_upto_region 6 with fail
 have s5:=zbe rd_14.h 3 (.int .i64 dp)
 have o5:=zbr w4 R.b 3 (.int .i64 dp)
 generalize w4.setCell ⟨R.b,3,none⟩ (.int .i64 dp) = w5 at *
 clear c3 f3 e1
 have V5:=V_15.depth (dp':=dp) (by omega) o5 (fun j' fp' fy' hR=>hR.put (j:=j') o5 hR.ib (by have q:=hR.h;rw [rd_14.h] at q;injection q with q;injection q with q _ _;simp at q;obtain ⟨q1,q2,q3⟩:=q;have s6:=s5;simp only [rdC] at s6 ⊢;rw [s6,← q1,← q2,← q3];rfl))
 have z_16:=o5.size
 have O_17:=O_12.trans o5 (by simp <;> omega)
 have res_18:=o5.heap res_13 (by simp <;> omega)
 have lc_19:=o5.heap l4 (by simp <;> omega)
 clear V_15 rd_14 O_12 res_13 l4
 go_wp2_with (first | (refine zaj rfl 28 _ rfl w3.heap.size cs 28 rfl lc_19 _ Tryz.underlying28 rfl 13 zae row.1 ?_) | (refine zad rfl 28 _ _ rfl w.heap.size cs rfl rfl _ 28 res_18 13 zae rfl row ?_;intro we re oe ze))
 have VE:=(V5.up OW (Nat.le_refl _)).off oe (by simp;omega)
 exact bodyPost_ret (zai Tryz.results360 _ _ w.heap.size 28 cs _ rfl re Tryz.underlying28 rfl 13 zae row.1) rfl ((VE.up (Off.refl _ _) (by omega)).p)
set_option maxRecDepth 20000 in
theorem deep50_0 (R:Rc):DeepOK R 202 15 (deep R.q):=by
 intro w i fp fy h
 have hbl:=h.bl
 have hrf:=fun W (hW:Rd R W i 15 fp fy)=>zba R 72 hW
 go_enter Tryz.func360,Tryz.ntmps360
 have O0:=Off.refl [R.b] w
 have a_1:=bZ w
 have zz_1:=fZ w
 have z_2:=a_1.size
 have rd_3:=h.later a_1
 have O_4:=O0.on a_1
 have res_n1:=cZ w
 clear h O0 a_1
 have c3:=rd_3.c3
 go_wp2_with fail
 refine (hrf _ rd_3).mono ?_
 rintro e w1 ⟨rfl,R1,o1⟩
 have z_5:=o1.size
 have O_6:=O_4.trans o1 (by simp <;> omega)
 have res_7:=o1.heap res_n1 (by simp <;> omega)
 clear c3 rd_3 O_4 res_n1
 go_wp2_with (refine zad rfl 28 _ _ rfl w.heap.size zE rfl rfl _ 28 res_7 13 zae rfl rowZ ?_;intro we re oe ze)
 have z_8:=oe.size
 have rd_9:=R1.off oe (by simp <;> omega)
 have O_10:=O_6.trans oe (by simp <;> omega)
 exact bodyPost_ret (zai Tryz.results360 _ _ w.heap.size 28 zE _ rfl re Tryz.underlying28 rfl 13 zae rfl) rfl ⟨zE,i,rfl,rowZ,rd_9,O_10⟩
set_option maxRecDepth 20000 in
theorem deep50_s (R:Rc) (dp:Int) (sp:List Tk → Rs Ex) (h0:0 ≤ dp) (h15:dp < 15) (hin:RunOK R 202 (dp + 1) sp):DeepOK R 202 dp sp:=by
 intro w i fp fy h
 have hbl:=h.bl
 have ht:(dp == 15) = false:=beq_eq_false_iff_ne.2 (by omega)
 have h15':dp ≤ 14:=by omega
 clear h15
 go_enter Tryz.func360,Tryz.ntmps360
 have O0:=Off.refl [R.b] w
 have a_1:=bZ w
 have zz_1:=fZ w
 have z_2:=a_1.size
 have rd_3:=h.later a_1
 have O_4:=O0.on a_1
 have res_n1:=cZ w
 clear h O0 a_1
 have c3:=rd_3.c3
 have f3:=rd_3.fz 3
 go_upto_region 3 with fail
 generalize w.alloc (.cells zE 28) = w1 at *
 go_upto_region 4 with fail
 have s2:=zbe rd_3.h 3 (.int .i64 (dp + 1))
 have o2:=zbr w1 R.b 3 (.int .i64 (dp + 1))
 generalize w1.setCell ⟨R.b,3,none⟩ (.int .i64 (dp + 1)) = w2 at *
 have R2:=rd_3.put (j:=i) o2 rd_3.ib s2
 clear c3 f3 s2
 have z_5:=o2.size
 have O_6:=O_4.trans o2 (by simp <;> omega)
 have res_7:=o2.heap res_n1 (by simp <;> omega)
 clear rd_3 O_4 res_n1
 have OW:=O_6
 have hc:=hin w2 i fp fy R2
 clear hin
 go_wp2_with fail
 refine hc.mono ?_
 intro e w3 hq
 obtain ⟨cs,ok,rfl,V⟩:=hq.v
 clear hq hc
 have row:=V.row
 have z_8:=V.heap.size
 have O_9:=O_6.trans V.heap (by simp <;> omega)
 have res_10:=V.heap.heap res_7 (by simp <;> omega)
 clear R2 O_6 res_7
 have V':=V
 obtain ⟨j,fp3,fy3,R3⟩:=V'.rd
 clear V'
 go_upto_region 5 with (refine zcm (w:=w3) rfl 28 _ _ rfl zE cs rfl rfl 13 zae rfl row ?_;intro w4 l4 b4 s4)
 have z_11:=b4.size
 have O_12:=O_9.on b4
 have res_13:=zab b4 res_10
 have rd_14:=R3.later b4
 have V_15:=V.later b4
 clear O_9 res_10 R3 V
 have c3:=rd_14.c3
 have f3:=rd_14.fz 3
 have e1:dp + 1 - 1 = dp:=by omega
 go_upto_region 6 with fail
 have s5:=zbe rd_14.h 3 (.int .i64 dp)
 have o5:=zbr w4 R.b 3 (.int .i64 dp)
 generalize w4.setCell ⟨R.b,3,none⟩ (.int .i64 dp) = w5 at *
 clear c3 f3 e1
 have V5:=V_15.depth (dp':=dp) (by omega) o5 (fun j' fp' fy' hR=>hR.put (j:=j') o5 hR.ib (by have q:=hR.h;rw [rd_14.h] at q;injection q with q;injection q with q _ _;simp at q;obtain ⟨q1,q2,q3⟩:=q;have s6:=s5;simp only [rdC] at s6 ⊢;rw [s6,← q1,← q2,← q3];rfl))
 have z_16:=o5.size
 have O_17:=O_12.trans o5 (by simp <;> omega)
 have res_18:=o5.heap res_13 (by simp <;> omega)
 have lc_19:=o5.heap l4 (by simp <;> omega)
 clear V_15 rd_14 O_12 res_13 l4
 go_wp2_with (first | (refine zaj rfl 28 _ rfl w3.heap.size cs 28 rfl lc_19 _ Tryz.underlying28 rfl 13 zae row.1 ?_) | (refine zad rfl 28 _ _ rfl w.heap.size cs rfl rfl _ 28 res_18 13 zae rfl row ?_;intro we re oe ze))
 have VE:=(V5.up OW (Nat.le_refl _)).off oe (by simp;omega)
 exact bodyPost_ret (zai Tryz.results360 _ _ w.heap.size 28 cs _ rfl re Tryz.underlying28 rfl 13 zae row.1) rfl ((VE.up (Off.refl _ _) (by omega)).p)
def HeldL (lb:Nat) (cs:Array Value) (W:World):Prop:=W.heap[lb]? = some (.cells cs 28)
set_option maxRecDepth 20000 in
theorem zin (R:Rc) (dp:Int) (c:List Tk → Rs Ex) (hC:DeepOK R 202 dp c):RunOK R 389 dp (brkP R.q c):=by
 intro w i fp fy h
 have hbl:=h.bl
 cases hs:sg (hd R.q (R.T.drop i)) [40] with
 | false=>
  have e:brkP R.q c (R.T.drop i) = .inl ((hd R.q (R.T.drop i)).p,71):=by unfold brkP;rw [if_pos hs];rfl
  rw [e]
  have hts:=fun W (hW:Rd R W i dp fp fy)=>zbp R [40] hW hs
  clear e hs hC
  generalize hd R.q (R.T.drop i) = x at *
  go_enter Tryz.func389,Tryz.ntmps389
  have O0:=Off.refl [R.b] w
  have a_1:=bZ w
  have zz_1:=fZ w
  have z_2:=a_1.size
  have rd_3:=h.later a_1
  have O_4:=O0.on a_1
  have res_n1:=cZ w
  clear h O0 a_1
  go_wp2_with fail
  refine (hts _ rd_3).mono ?_
  rintro e w1 ⟨rfl,R1,o1⟩
  have z_5:=o1.size
  have O_6:=O_4.trans o1 (by simp <;> omega)
  have res_7:=o1.heap res_n1 (by simp <;> omega)
  clear rd_3 O_4 res_n1
  go_wp2_with (refine zad rfl 28 _ _ rfl w.heap.size zE rfl rfl _ 28 res_7 13 zae rfl rowZ ?_;intro we re oe ze)
  have z_8:=oe.size
  have rd_9:=R1.off oe (by simp <;> omega)
  have O_10:=O_6.trans oe (by simp <;> omega)
  exact bodyPost_ret (zai Tryz.results389 _ _ w.heap.size 28 zE _ rfl re Tryz.underlying28 rfl 13 zae rfl) rfl ⟨zE,i,rfl,rowZ,rd_9,O_10⟩
 | true=>
  have hi:=zgp h hs
  have HB:Hid (brkP R.q c (R.T.drop i) = bnd (c (R.T.drop (i + 1))) fun x=>if sg (hd R.q x.2) [41] = true then .inr (x.1,x.2.tail) else .inl (bad R.q x.2 71)):=by
   show _ = _
   unfold brkP
   rw [if_neg (by simp [hs]),List.tail_drop]
  generalize brkP R.q c (R.T.drop i) = RES at *
  have hts:=fun W (hW:Rd R W i dp fp fy)=>zaz R [40] hW hs
  clear hs
  go_enter Tryz.func389,Tryz.ntmps389
  have O0:=Off.refl [R.b] w
  have a_1:=bZ w
  have zz_1:=fZ w
  have z_2:=a_1.size
  have rd_3:=h.later a_1
  have O_4:=O0.on a_1
  have res_n1:=cZ w
  clear h O0 a_1
  go_wp2_with fail
  refine (hts _ rd_3).mono ?_
  rintro e w1 ⟨rfl,R1,o1⟩
  have z_5:=o1.size
  have O_6:=O_4.trans o1 (by simp <;> omega)
  have res_7:=o1.heap res_n1 (by simp <;> omega)
  clear rd_3 O_4 res_n1
  have hc:=hC w1 (i + 1) fp fy R1
  clear hC hts
  have OW:=O_6
  cases hr:c (R.T.drop (i + 1)) with
  | inr x=>
   rw [hr] at hc HB
   obtain ⟨e1,l1⟩:=x
   go_wp2_with fail
   refine hc.mono ?_
   rintro e w2 ⟨cs,j,fp2,fy2,rfl,hl1,t2,R2,o2⟩
   dsimp only at hl1
   subst hl1
   have row:=t2.row
   clear hc hr
   have z_8:=o2.size
   have O_9:=O_6.trans o2 (by simp <;> omega)
   have res_10:=o2.heap res_7 (by simp <;> omega)
   clear R1 O_6 res_7
   go_upto_region 4 with (refine zcm (w:=w2) rfl 28 _ _ rfl zE cs rfl rfl 13 zae rfl row ?_;intro w3 l_w3 b_w3 s_w3)
   have z_11:=b_w3.size
   have rd_12:=R2.later b_w3
   have O_13:=O_9.on b_w3
   have res_14:=zab b_w3 res_10
   have t_15:=t2.later b_w3
   clear R2 O_9 res_10 t2
   cases hs2:sg (hd R.q (R.T.drop j)) [41] with
   | true=>
    have hts2:=fun W (hW:Rd R W j dp fp2 fy2)=>zaz R [41] hW hs2
    have HX:Hid (RES = .inr (e1,R.T.drop (j + 1))):=by
     show _ = _
     rw [HB.out]
     show (if sg (hd R.q (R.T.drop j)) [41] = true then _ else _) = _
     rw [if_pos hs2,List.tail_drop]
    clear HB hs2
    have dr:=zag w3
    have z_16:=dr.size
    have rd_17:=rd_12.later dr
    have O_18:=O_13.on dr
    have res_19:=zab dr res_14
    have t_20:=t_15.later dr
    have lc_21:=zab dr l_w3
    have S4:HeldL w2.heap.size cs (World.drew w3):=lc_21
    refine wp_region_noPanic ?_
    refine wp_region_held_drew (S:=HeldL w2.heap.size cs) (by kernel_rfl) ?_ (fun _=>?_)
    ·
     exact S4
    clear rd_12 O_13 res_14 t_15 l_w3 dr
    generalize w3.drew = w4 at *
    refine tk 0 17 (.agg cs) rfl (fun W hSw=>by exact zar 28 _ rfl w2.heap.size cs 28 rfl W hSw _ Tryz.underlying28 rfl 13 zae row.1) S4 ?_
    simp only [Act.put,pB,pC,pD]
    refine tk 1 18 (.bool true) rfl (fun W hSw=>by go_simp) S4 ?_
    simp only [Act.put,pB,pC,pD]
    refine tk 2 19 (.bool true) rfl (fun W hSw=>by go_simp) S4 ?_
    simp only [Act.put,pB,pC,pD]
    refine tk 3 20 (R.ptr) rfl (fun W hSw=>by go_simp) S4 ?_
    simp only [Act.put,pB,pC,pD]
    refine wpAnyH_ready (rs:=[4]) (by kernel_rfl) (by simp) ?_
    refine aR rfl fun K hK=>?_
    go_simp
    refine (hts2 _ rd_17).mono ?_
    rintro e w5 ⟨rfl,R5,o5⟩
    have z_22:=o5.size
    have O_23:=O_18.trans o5 (by simp <;> omega)
    have res_24:=o5.heap res_19 (by simp <;> omega)
    have t_25:=Tr.off o5 (by simp <;> omega) _ t_20
    have lc_26:=o5.heap lc_21 (by simp <;> omega)
    have S5:HeldL w2.heap.size cs w5:=lc_26
    refine hK.out _ _ ?_ (fun _=>?_)
    ·
     exact S5
    clear hK K
    refine tk 5 22 (.bool true) rfl (fun W hSw=>by go_simp) S5 ?_
    simp only [Act.put,pB,pC,pD]
    refine wpAnyH_ready (rs:=[6]) (by kernel_rfl) (by simp) ?_
    refine aR rfl fun K hK=>?_
    refine zbw 28 _ _ none rfl rfl (by rfl) w.heap.size cs rfl rfl _ 28 res_24 13 zae rfl row ?_
    intro we re oe ze
    have z_27:=oe.size
    have rd_28:=R5.off oe (by simp <;> omega)
    have O_29:=O_23.trans oe (by simp <;> omega)
    have t_30:=Tr.off oe (by simp <;> omega) _ t_25
    have lc_31:=oe.heap lc_26 (by simp <;> omega)
    have S6:HeldL w2.heap.size cs we:=lc_31
    refine hK.out _ _ ?_ (fun _=>?_)
    ·
     exact S6
    clear hK K
    refine tk 7 3 (.bool true) rfl (fun W hSw=>by go_simp) S6 ?_
    simp only [Act.put,pB,pC,pD]
    refine wpAnyH_done (by kernel_rfl) ?_ _
    refine NoPanic.normal ?_
    go_wp2_with fail
    rw [HX.out]
    exact bodyPost_ret (zai Tryz.results389 _ _ w.heap.size 28 cs _ rfl re Tryz.underlying28 rfl 13 zae row.1) rfl ⟨cs,j + 1,fp2,fy2,rfl,rfl,Tr.lower (by omega) _ t_30,rd_28,O_29⟩
   | false=>
    have hts2:=fun W (hW:Rd R W j dp fp2 fy2)=>zbp R [41] hW hs2
    have HX:Hid (RES = .inl ((hd R.q (R.T.drop j)).p,71)):=by
     show _ = _
     rw [HB.out]
     show (if sg (hd R.q (R.T.drop j)) [41] = true then _ else _) = _
     rw [if_neg (by simp [hs2])]
     rfl
    clear HB hs2
    have dr:=zag w3
    have z_16:=dr.size
    have rd_17:=rd_12.later dr
    have O_18:=O_13.on dr
    have res_19:=zab dr res_14
    have t_20:=t_15.later dr
    have lc_21:=zab dr l_w3
    have S4:HeldL w2.heap.size cs (World.drew w3):=lc_21
    refine wp_region_noPanic ?_
    refine wp_region_held_drew (S:=HeldL w2.heap.size cs) (by kernel_rfl) ?_ (fun _=>?_)
    ·
     exact S4
    clear rd_12 O_13 res_14 t_15 l_w3 dr
    generalize w3.drew = w4 at *
    refine tk 0 17 (.agg cs) rfl (fun W hSw=>by exact zar 28 _ rfl w2.heap.size cs 28 rfl W hSw _ Tryz.underlying28 rfl 13 zae row.1) S4 ?_
    simp only [Act.put,pB,pC,pD]
    refine tk 1 18 (.bool true) rfl (fun W hSw=>by go_simp) S4 ?_
    simp only [Act.put,pB,pC,pD]
    refine tk 2 19 (.bool true) rfl (fun W hSw=>by go_simp) S4 ?_
    simp only [Act.put,pB,pC,pD]
    refine tk 3 20 (R.ptr) rfl (fun W hSw=>by go_simp) S4 ?_
    simp only [Act.put,pB,pC,pD]
    refine wpAnyH_ready (rs:=[4]) (by kernel_rfl) (by simp) ?_
    refine aR rfl fun K hK=>?_
    go_simp
    refine (hts2 _ rd_17).mono ?_
    rintro e w5 ⟨rfl,R5,o5⟩
    have z_22:=o5.size
    have O_23:=O_18.trans o5 (by simp <;> omega)
    have res_24:=o5.heap res_19 (by simp <;> omega)
    have t_25:=Tr.off o5 (by simp <;> omega) _ t_20
    have lc_26:=o5.heap lc_21 (by simp <;> omega)
    have S5:HeldL w2.heap.size cs w5:=lc_26
    refine hK.out _ _ ?_ (fun _=>?_)
    ·
     exact S5
    clear hK K
    refine tk 5 22 (.bool false) rfl (fun W hSw=>by go_simp) S5 ?_
    simp only [Act.put,pB,pC,pD]
    refine wpAnyH_ready (rs:=[6]) (by kernel_rfl) (by simp) ?_
    refine aR rfl fun K hK=>?_
    refine zbw 28 _ _ none rfl rfl (by rfl) w.heap.size cs rfl rfl _ 28 res_24 13 zae rfl row ?_
    intro we re oe ze
    have z_27:=oe.size
    have rd_28:=R5.off oe (by simp <;> omega)
    have O_29:=O_23.trans oe (by simp <;> omega)
    have t_30:=Tr.off oe (by simp <;> omega) _ t_25
    have lc_31:=oe.heap lc_26 (by simp <;> omega)
    have S6:HeldL w2.heap.size cs we:=lc_31
    refine hK.out _ _ ?_ (fun _=>?_)
    ·
     exact S6
    clear hK K
    refine tk 7 3 (.bool false) rfl (fun W hSw=>by go_simp) S6 ?_
    simp only [Act.put,pB,pC,pD]
    refine wpAnyH_done (by kernel_rfl) ?_ _
    refine NoPanic.normal ?_
    go_wp2_with fail
    rw [HX.out]
    exact bodyPost_ret (zai Tryz.results389 _ _ w.heap.size 28 cs _ rfl re Tryz.underlying28 rfl 13 zae row.1) rfl ⟨cs,j,rfl,row,rd_28,O_29⟩
  | inl er=>
   rw [hr] at hc HB
   have HX:Hid (RES = .inl er):=HB
   clear HB
   go_wp2_with fail
   refine hc.mono ?_
   rintro e w2 ⟨cs,j,rfl,row,R2,o2⟩
   clear hc hr
   have z_8:=o2.size
   have O_9:=O_6.trans o2 (by simp <;> omega)
   have res_10:=o2.heap res_7 (by simp <;> omega)
   clear R1 O_6 res_7
   go_upto_region 4 with (refine zcm (w:=w2) rfl 28 _ _ rfl zE cs rfl rfl 13 zae rfl row ?_;intro w3 l_w3 b_w3 s_w3)
   have z_11:=b_w3.size
   have rd_12:=R2.later b_w3
   have O_13:=O_9.on b_w3
   have res_14:=zab b_w3 res_10
   clear R2 O_9 res_10
   have dr:=zag w3
   have z_15:=dr.size
   have rd_16:=rd_12.later dr
   have O_17:=O_13.on dr
   have res_18:=zab dr res_14
   have lc_19:=zab dr l_w3
   have S4:HeldL w2.heap.size cs (World.drew w3):=lc_19
   refine wp_region_noPanic ?_
   refine wp_region_held_drew (S:=HeldL w2.heap.size cs) (by kernel_rfl) ?_ (fun _=>?_)
   ·
    exact S4
   clear rd_12 O_13 res_14 l_w3 dr
   generalize w3.drew = w4 at *
   refine tk 0 17 (.agg cs) rfl (fun W hSw=>by exact zar 28 _ rfl w2.heap.size cs 28 rfl W hSw _ Tryz.underlying28 rfl 13 zae row.1) S4 ?_
   simp only [Act.put,pB,pC,pD]
   refine tk 1 18 (.bool false) rfl (fun W hSw=>by go_simp) S4 ?_
   simp only [Act.put,pB,pC,pD]
   refine tk 2 19 (.bool false) rfl (fun W hSw=>by go_simp) S4 ?_
   simp only [Act.put,pB,pC,pD]
   refine zaw 3 (some 20) rfl rfl (by kernel_rfl) (by kernel_rfl) (by kernel_rfl) (fun _ _ _ h=>h) (by rfl) S4 ?_
   simp only [Act.put,pB,pC,pD]
   refine zaw 4 (some 21) rfl rfl (by kernel_rfl) (by kernel_rfl) (by kernel_rfl) (fun _ _ _ h=>h) (by rfl) S4 ?_
   simp only [Act.put,pB,pC,pD]
   refine tk 5 22 (.bool false) rfl (fun W hSw=>by go_simp) S4 ?_
   simp only [Act.put,pB,pC,pD]
   refine wpAnyH_ready (rs:=[6]) (by kernel_rfl) (by simp) ?_
   refine aR rfl fun K hK=>?_
   refine zbw 28 _ _ none rfl rfl (by rfl) w.heap.size cs rfl rfl _ 28 res_18 13 zae rfl row ?_
   intro we re oe ze
   have z_20:=oe.size
   have rd_21:=rd_16.off oe (by simp <;> omega)
   have O_22:=O_17.trans oe (by simp <;> omega)
   have lc_23:=oe.heap lc_19 (by simp <;> omega)
   have S6:HeldL w2.heap.size cs we:=lc_23
   refine hK.out _ _ ?_ (fun _=>?_)
   ·
    exact S6
   clear hK K
   refine tk 7 3 (.bool false) rfl (fun W hSw=>by go_simp) S6 ?_
   simp only [Act.put,pB,pC,pD]
   refine wpAnyH_done (by kernel_rfl) ?_ _
   refine NoPanic.normal ?_
   go_wp2_with fail
   rw [HX.out]
   exact bodyPost_ret (zai Tryz.results389 _ _ w.heap.size 28 cs _ rfl re Tryz.underlying28 rfl 13 zae row.1) rfl ⟨cs,j,rfl,row,rd_21,O_22⟩
theorem zmd {w:World} {ops:Array Oper} {rest:List Oper} {o:Oper} {a:Act} {Q:Exit → Act → World → Prop} (hgd:o.guard = none) (x:Operand) (ho:o.op = .buildSlice 26 1 #[(0,x)]) (cs:Array Value) (hx:a.eval x = .agg cs) (hn:cs.size = 13)
  (h:∀ W,W.heap[w.heap.size]? = some (.cells cs 28) → Below w.heap.size w W → w.heap.size + 1 ≤ W.heap.size → wpList Tryz.prog ops Q rest (a.put o.dst (.slice (some ⟨w.heap.size,0,none⟩) 1 1)) W):wpList Tryz.prog ops Q (o :: rest) a w:=by
 refine wpList_plain hgd fun K hK=>?_
 have k:=hK _ _ (h _ (zac w _) (bal (Below.refl _ _) _) (zaf _ _))
 have e:(Array.map (fun y:Nat × Operand=>(y.1,a.eval y.2)) #[(0,x)]) = #[(0,.agg cs)]:=by simp [hx]
 unfold Oper.wp execOp
 simp only [ho,e,Sem.run_bind,Result.andThen_ok,run_mk1 w cs hn]
 exact k
theorem wp_mk2 {w:World} {ops:Array Oper} {rest:List Oper} {o:Oper} {a:Act} {Q:Exit → Act → World → Prop} (hgd:o.guard = none) (x y:Operand) (ho:o.op = .buildSlice 26 2 #[(0,x),(1,y)]) (cs ds:Array Value) (hx:a.eval x = .agg cs) (hy:a.eval y = .agg ds) (hn:cs.size = 13) (hm:ds.size = 13)
  (h:∀ W,W.heap[w.heap.size]? = some (.cells (cs ++ ds) 28) → Below w.heap.size w W → w.heap.size + 1 ≤ W.heap.size → wpList Tryz.prog ops Q rest (a.put o.dst (.slice (some ⟨w.heap.size,0,none⟩) 2 2)) W):wpList Tryz.prog ops Q (o :: rest) a w:=by
 refine wpList_plain hgd fun K hK=>?_
 have k:=hK _ _ (h _ (zac w _) (bal (Below.refl _ _) _) (zaf _ _))
 have e:(Array.map (fun y:Nat × Operand=>(y.1,a.eval y.2)) #[(0,x),(1,y)]) = #[(0,.agg cs),(1,.agg ds)]:=by simp [hx,hy]
 unfold Oper.wp execOp
 simp only [ho,e,Sem.run_bind,Result.andThen_ok,run_mk2 w cs ds hn hm]
 exact k
theorem flat13:∀ (l:List (Array Value)),(∀ a ∈ l,a.size = 13) → ∀ (i j:Nat),i < l.length → j < 13 → (l.flatMap (·.toList))[i * 13 + j]? = (l.getD i #[])[j]?
 | [],_,i,j,h,_=>by simp at h
 | a :: l,ha,0,j,_,hj=>by
  have h1:a.size = 13:=ha a (by simp)
  rw [List.flatMap_cons,List.getElem?_append_left (by simp [h1];omega)]
  simp
 | a :: l,ha,i + 1,j,h,hj=>by
  have h1:a.size = 13:=ha a (by simp)
  rw [List.flatMap_cons,List.getElem?_append_right (by simp [h1];omega)]
  have e:(i + 1) * 13 + j - a.toList.length = i * 13 + j:=by simp [h1];omega
  rw [e,flat13 l (fun x hx=>ha x (by simp [hx])) i j (by simpa using h) hj]
  simp
theorem znk:∀ (l:List (Array Value)),(∀ a ∈ l,a.size = 13) → (l.flatMap (·.toList)).length = l.length * 13
 | [],_=>rfl
 | a :: l,ha=>by
  have h1:a.size = 13:=ha a (by simp)
  rw [List.flatMap_cons,List.length_append,znk l (fun x hx=>ha x (by simp [hx])),List.length_cons]
  simp [h1]
  omega
structure Kid (P:Nat → Prop) (w:World) (b off i:Nat) (x:Ex) (ci:Array Value):Prop where
 t:TrP P w x ci
 r:w.rangeAt b (off + i * 13) ci.toList
 lt:b < w.heap.size
 p:P b
theorem TrP.parts {P:Nat → Prop} {w:World} {e:Ex} {cs:Array Value} (h:TrP P w e cs):∃ vm vn ao cap,cs = exA e.k e.p e.o e.v e.s vm e.r e.b1 e.b2 e.b3 e.b4 vn (.slice ao e.ks.length cap) ∧ SlP P w vm e.m.length (cellsM e.m) ∧ SlP P w vn e.ns.length (e.ns.map tx) ∧ e.ks.length ≤ cap ∧ ∀ (i:Nat) (x:Ex),e.ks[i]? = some x → ∃ b off ci,ao = some ⟨b,off,none⟩ ∧ Kid P w b off i x ci:=by
 rw [zfm] at h
 obtain ⟨vm,vn,vk,kss,h1,h2,h3,⟨ao,cap,rfl,hcap,h4⟩,h5,h6⟩:=h
 refine ⟨vm,vn,ao,cap,h1,h2,h3,hcap,fun i x hx=>?_⟩
 have hi:i < e.ks.length:=by
  by_cases hi:i < e.ks.length
  ·
   exact hi
  rw [List.getElem?_eq_none (by omega)] at hx;cases hx
 have all:∀ a ∈ kss,a.size = 13:=fun a ha=>by
  obtain ⟨k,hk,rfl⟩:=List.getElem_of_mem ha
  have hk':k < e.ks.length:=by omega
  have:=TrP.row (h6 k _ (List.getElem_mem hk') (List.getElem?_eq_getElem hk'))
  rw [List.getD,List.getElem?_eq_getElem hk] at this
  exact this.1
 obtain ⟨b,off,e1,hp,hc⟩:=h4 (by omega)
 have tk:=h6 i x (List.mem_of_getElem? hx) hx
 have row:=TrP.row tk
 have hr:w.rangeAt b (off + i * 13) (kss.getD i #[]).toList:=fun j v hv=>by
  have hj:j < 13:=by
   have:=(List.getElem?_eq_some_iff.1 hv).1
   rw [Array.length_toList,row.1] at this
   exact this
  have hl:i * 13 + j < (kss.flatMap (·.toList)).length:=by
   rw [znk kss all,h5]
   omega
  rw [show off + i * 13 + j = off + (i * 13 + j) by omega,hc _ hl,flat13 kss all i j (by omega) hj]
  simpa using hv
 refine ⟨b,off,kss.getD i #[],e1,tk,hr,?_,hp⟩
 have z:(kss.getD i #[]).toList[0]? = some ((kss.getD i #[])[0]'(by rw [row.1];omega)):=by simp
 exact World.block_lt_of_cell? _ _ (hr 0 _ z)
theorem zfw {X:List Nat} {w w':World} {b o:Nat} {cs:List Value} (h:w.rangeAt b o cs) (ho:Off X w w') (hb:b ∉ X):w'.rangeAt b o cs:=fun j v hv=>ho.cell (h j v hv) hb
theorem Kid.later {P:Nat → Prop} {w w':World} {b off i:Nat} {x:Ex} {ci:Array Value} (h:Kid P w b off i x ci) (hb:Below w.heap.size w w'):Kid P w' b off i x ci:=
 ⟨h.t.later hb,zfw h.r (Off.of hb []) (by simp),Nat.lt_of_lt_of_le h.lt hb.size,h.p⟩
theorem zdf {w:World} {ops:Array Oper} {rest:List Oper} {o:Oper} {a:Act} {Q:Exit → Act → World → Prop} (hgd:o.guard = none) (x:Operand) (ho:o.op = .load 28 x) (b off:Nat) (cs:Array Value) (hx:a.eval x = .pointer (some ⟨b,off,none⟩)) (hr:w.rangeAt b off cs.toList) (hn:cs.size = 13)
  (h:wpList Tryz.prog ops Q rest (a.put o.dst (.agg cs)) w):wpList Tryz.prog ops Q (o :: rest) a w:=by
 refine wpList_load_mid hgd 28 x ho b off hx cs.toList _ hr Tryz.underlying28 rfl (by rw [zae];simp [hn]) ?_
 simpa using h
theorem fields24:Tryz.prog.underlying 23 = some (.struct (Tryz.prog.fieldsOf 23)):=by kernel_rfl
theorem stood24:Tryz.prog.stoodInHeld 23 = false:=by kernel_rfl
theorem guard24:Tryz.prog.eqGuardType Tryz.prog.depth 23 = false:=by kernel_rfl
theorem fields75:Tryz.prog.underlying 57 = some (.struct (Tryz.prog.fieldsOf 57)):=by kernel_rfl
theorem stood75:Tryz.prog.stoodInHeld 57 = false:=by kernel_rfl
theorem guard75:Tryz.prog.eqGuardType Tryz.prog.depth 57 = false:=by kernel_rfl
def nEq (o:Bool) (n:Int) (o':Bool) (n':Int):Bool:=o == o' && n == n'
def mEq (a b:Mt):Bool:=a.name == b.name && (a.kind == b.kind && a.text == b.text)
theorem eqIn_num (o o':Bool) (n n':Int) (w:World):(Op.equalIn 10000 23 (.agg #[.bool o,.int .i64 n]) (.agg #[.bool o',.int .i64 n'])).run Tryz.prog w = .ok (nEq o n o' n') w:=by
 have u4:=Tryz.underlying4
 have a4:=Tryz.isAgg4
 have z4:=Tryz.sizeOf4
 have u2:=Tryz.underlying2
 have a2:=Tryz.isAgg2
 have z2:=Tryz.sizeOf2
 rw [show (10000:Nat) = 9999 + 1 from rfl,run_equalIn_agg w 9999 23 _ _ fields24 stood24]
 simp only [Program.fieldsOf,Tryz.underlying23]
 unfold nEq
 cases h1:(o == o') <;> cases h2:(n == n') <;> go_simp
theorem eqIn_mt (a b:Mt) (w:World):(Op.equalIn 10000 57 (av a) (av b)).run Tryz.prog w = .ok (mEq a b) w:=by
 have u3:=Tryz.underlying3
 have a3:=Tryz.isAgg3
 have z3:=Tryz.sizeOf3
 have u9:=Tryz.underlying9
 have a9:=Tryz.isAgg9
 have z9:=Tryz.sizeOf9
 rw [show (10000:Nat) = 9999 + 1 from rfl,run_equalIn_agg w 9999 57 _ _ fields75 stood75]
 simp only [Program.fieldsOf,Tryz.underlying57]
 unfold mEq
 cases h1:(a.name == b.name) <;> cases h2:(a.kind == b.kind) <;> cases h3:(a.text == b.text) <;> go_simp
theorem neq_mt (a b:Mt) (w:World):(binOp .neq 57 (av a) (av b)).run Tryz.prog w = .ok (.bool !mEq a b) w:=by
 rw [run_neq_struct,eqIn_mt]
 rfl
theorem guard_mt (x y:Operand) (xs ys:Array Value) (w:World):(eqGuard .neq 57 x y (.agg xs) (.agg ys)).run Tryz.prog w = .ok () w:=run_eqGuard_agg w .neq 57 x y xs ys guard75
theorem eql_num (o o':Bool) (n n':Int) (w:World):(binOp .eql 23 (.agg #[.bool o,.int .i64 n]) (.agg #[.bool o',.int .i64 n'])).run Tryz.prog w = .ok (.bool (nEq o n o' n')) w:=by
 rw [run_eql_struct,eqIn_num]
 rfl
theorem guard_num (x y:Operand) (xs ys:Array Value) (w:World):(eqGuard .eql 23 x y (.agg xs) (.agg ys)).run Tryz.prog w = .ok () w:=run_eqGuard_agg w .eql 23 x y xs ys guard24
def msEq:List Mt → List Mt → Bool
 | [],[]=>true
 | a :: l,b :: m=>mEq a b && msEq l m
 | _,_=>false
theorem zlh (a b:Mt):mEq a b = true ↔ a = b:=by
 unfold mEq
 cases a
 cases b
 simp
theorem zfp:∀ (l m:List Mt),msEq l m = true ↔ l = m
 | [],[]=>by simp [msEq]
 | [],b :: m=>by simp [msEq]
 | a :: l,[]=>by simp [msEq]
 | a :: l,b :: m=>by simp [msEq,zlh,zfp l m]
theorem msEq_at {l m:List Mt} (hl:l.length = m.length) (h:∀ i,i < l.length → mEq (l.getD i ⟨[],0,[]⟩) (m.getD i ⟨[],0,[]⟩) = true):msEq l m = true:=by
 rw [zfp]
 apply List.ext_getElem hl
 intro i h1 h2
 have:=h i h1
 rw [zlh] at this
 simpa [List.getD,List.getElem?_eq_getElem h1,List.getElem?_eq_getElem h2] using this
theorem msEq_no {l m:List Mt} {i:Nat} (_h1:i < l.length) (h2:i < m.length) (h:mEq (l.getD i ⟨[],0,[]⟩) (m.getD i ⟨[],0,[]⟩) = false):msEq l m = false:=by
 cases hq:msEq l m with
 | false=>rfl
 | true=>
  rw [zfp] at hq
  subst hq
  have:mEq (l.getD i ⟨[],0,[]⟩) (l.getD i ⟨[],0,[]⟩) = true:=(zlh _ _).2 rfl
  rw [this] at h
  cases h
theorem sEq_at {l m:List Str} (hl:l.length = m.length) (h:∀ i,i < l.length → l.getD i [] = m.getD i []):l = m:=by
 apply List.ext_getElem hl
 intro i h1 h2
 have:=h i h1
 simpa [List.getD,List.getElem?_eq_getElem h1,List.getElem?_eq_getElem h2] using this
theorem SlP.strs {P:Nat → Prop} {w:World} {a:Option Addr} {n c:Nat} {l:List Str} (h:SlP P w (.slice a n c) l.length (l.map tx)):n = l.length ∧ n ≤ c ∧ ∀ i,i < n → ∃ b off,a = some ⟨b,off,none⟩ ∧ w.cell? ⟨b,off + i,none⟩ = some (tx (l.getD i [])):=by
 obtain ⟨ao,cap,e,hc,h4⟩:=h
 injection e with e1 e2 e3
 subst e1 e3
 refine ⟨e2,by omega,fun i hi=>?_⟩
 obtain ⟨b,off,e1,_,hcs⟩:=h4 (by omega)
 refine ⟨b,off,e1,?_⟩
 have hl:i < l.length:=by omega
 rw [hcs i (by simpa using hl)]
 simp [List.getD,List.getElem?_eq_getElem hl]
theorem zki:∀ (l:List Mt) (i:Nat),i < l.length → (cellsM l)[i * 3]? = some (tx (l.getD i ⟨[],0,[]⟩).name) ∧ (cellsM l)[i * 3 + 1]? = some (.int .i64 (l.getD i ⟨[],0,[]⟩).kind) ∧ (cellsM l)[i * 3 + 2]? = some (tx (l.getD i ⟨[],0,[]⟩).text)
 | [],i,h=>by simp at h
 | p :: l,0,_=>⟨rfl,rfl,rfl⟩
 | p :: l,i + 1,h=>by
  have ih:=zki l i (by simpa using h)
  have e:cellsM (p :: l) = [tx p.name,.int .i64 p.kind,tx p.text] ++ cellsM l:=rfl
  rw [e,show (i + 1) * 3 = i * 3 + 3 by omega]
  refine ⟨?_,?_,?_⟩
  ·
   rw [List.getElem?_append_right (by simp)];exact ih.1
  ·
   rw [List.getElem?_append_right (by simp)];exact ih.2.1
  rw [List.getElem?_append_right (by simp)];exact ih.2.2
theorem SlP.mats {P:Nat → Prop} {w:World} {a:Option Addr} {n c:Nat} {l:List Mt} (h:SlP P w (.slice a n c) l.length (cellsM l)):n = l.length ∧ n ≤ c ∧ ∀ i,i < n → ∃ b off,a = some ⟨b,off,none⟩ ∧ w.cell? ⟨b,off + i * 3,none⟩ = some (tx (l.getD i ⟨[],0,[]⟩).name) ∧ w.cell? ⟨b,off + i * 3 + 1,none⟩ = some (.int .i64 (l.getD i ⟨[],0,[]⟩).kind) ∧ w.cell? ⟨b,off + i * 3 + 2,none⟩ = some (tx (l.getD i ⟨[],0,[]⟩).text):=by
 obtain ⟨ao,cap,e,hc,h4⟩:=h
 injection e with e1 e2 e3
 subst e1 e3
 refine ⟨e2,by omega,fun i hi=>?_⟩
 obtain ⟨b,off,e1,_,hcs⟩:=h4 (by omega)
 have hl:i < l.length:=by omega
 obtain ⟨q0,q1,q2⟩:=zki l i hl
 have len:=zcu l
 refine ⟨b,off,e1,?_,?_,?_⟩
 ·
  rw [hcs (i * 3) (by omega),q0]
 ·
  rw [show off + i * 3 + 1 = off + (i * 3 + 1) by omega,hcs (i * 3 + 1) (by omega),q1]
 rw [show off + i * 3 + 2 = off + (i * 3 + 2) by omega,hcs (i * 3 + 2) (by omega),q2]
theorem eqS_any {P P':Nat → Prop} {w:World} {a a':Option Addr} {n n' c c':Nat} {l m:List Str} (h:SlP P w (.slice a n c) l.length (l.map tx)) (h':SlP P' w (.slice a' n' c') m.length (m.map tx)) (hb:l.length ≤ 9223372036854775807) :
  Calls Tryz.prog 86 #[.slice a n c,.slice a' n' c'] w fun e w'=>e = .returned (.bool (decide (l = m))) ∧ Below w.heap.size w w':=by
 have H1:Hid _:=h
 have H2:Hid _:=h'
 obtain ⟨e1,_,_⟩:=h.strs
 obtain ⟨e2,_,_⟩:=h'.strs
 clear h h'
 by_cases hne:n = n'
 ·
  subst hne
  have t0:((n:Int) != n) = false:=by rw [bne_eq_false_iff_eq]
  have hnb:n ≤ 9223372036854775807:=by omega
  have HE1:Hid (n = l.length):=e1
  have HE2:Hid (n = m.length):=e2
  clear e1 e2 hb
  go_enter Tryz.func86,Tryz.ntmps86
  go_wp2_with fail
  go_loopw [13] (fun i wr=>∃ k:Nat,k ≤ n ∧ i = .int .i64 k ∧ Below w.heap.size w wr ∧ Hid (∀ j,j < k → l.getD j [] = m.getD j [])) (fun i _=>n - (intOf i).toNat)
  case atStart=>exact ⟨0,by omega,rfl,Below.refl _ _,fun j hj=>by omega⟩
  case round=>
   obtain ⟨k,hk,rfl,B,HA⟩:=hrel
   by_cases hlt:k < n
   ·
    have hlt':(k:Int) < n:=by omega
    obtain ⟨b,off,ea,k0⟩:=(SlP.later H1.out B).strs.2.2 k hlt
    obtain ⟨b',off',ea',j0⟩:=(SlP.later H2.out B).strs.2.2 k hlt
    subst ea ea'
    have HX:Hid (∃ x,x = l.getD k []):=⟨_,rfl⟩
    generalize hx:l.getD k [] = x at *
    generalize hy:m.getD k [] = y at *
    by_cases hxy:x = y
    ·
     have t1:(x == y) = true:=by rw [beq_iff_eq];exact hxy
     have HN:Hid (∀ j,j < k + 1 → l.getD j [] = m.getD j []):=fun j hj=>by
      by_cases e:j = k
      ·
       subst e;rw [hx,hy,hxy]
      exact HA.out j (by omega)
     clear HA hx hy hxy HX
     go_upto_region 6 with fail
     go_quiet (fail)
     go_wp2_with fail
     refine ⟨⟨k + 1,by omega,by go_num,Fx.below_drewN B _,HN⟩,?_⟩
     simp [intOf];omega
    have t1:(x == y) = false:=by rw [beq_eq_false_iff_ne];exact hxy
    have HV:Hid (decide (l = m) = false):=by
     show _ = _
     rw [decide_eq_false_iff_not]
     rintro rfl
     exact hxy (hx.symm.trans hy)
    clear HA hx hy hxy HX
    go_upto_region 6 with fail
    go_quiet (fail)
    go_wp2_with fail
    go_ret
    exact ⟨by rw [HV.out];rfl,Fx.below_drewN B _⟩
   have hlt':¬ (k:Int) < n:=by omega
   have HV:Hid (decide (l = m) = true):=by
    show _ = _
    rw [decide_eq_true_iff]
    exact sEq_at (by rw [← HE1.out,HE2.out]) (fun i hi=>HA.out i (by have:=HE1.out;omega))
   clear HA
   go_wp2_with fail
   go_ret
   exact ⟨by rw [HV.out];rfl,B⟩
 have t0:((n:Int) != n') = true:=by rw [bne_iff_ne];omega
 have HV:Hid (decide (l = m) = false):=by
  show _ = _
  rw [decide_eq_false_iff_not]
  rintro rfl
  exact hne (e1.trans e2.symm)
 clear e1 e2
 go_enter Tryz.func86,Tryz.ntmps86
 go_wp2_with fail
 go_ret
 exact ⟨by rw [HV.out];rfl,Below.refl _ _⟩
theorem eqM_any {P P':Nat → Prop} {w:World} {a a':Option Addr} {n n' c c':Nat} {l m:List Mt} (h:SlP P w (.slice a n c) l.length (cellsM l)) (h':SlP P' w (.slice a' n' c') m.length (cellsM m)) (hb:l.length ≤ 9223372036854775807) :
  Calls Tryz.prog 85 #[.slice a n c,.slice a' n' c'] w fun e w'=>e = .returned (.bool (msEq l m)) ∧ Below w.heap.size w w':=by
 have H1:Hid _:=h
 have H2:Hid _:=h'
 obtain ⟨e1,_,_⟩:=h.mats
 obtain ⟨e2,_,_⟩:=h'.mats
 clear h h'
 by_cases hne:n = n'
 ·
  subst hne
  have t0:((n:Int) != n) = false:=by rw [bne_eq_false_iff_eq]
  have hnb:n ≤ 9223372036854775807:=by omega
  have HE1:Hid (n = l.length):=e1
  have HE2:Hid (n = m.length):=e2
  clear e1 e2 hb
  go_enter Tryz.func85,Tryz.ntmps85
  go_wp2_with fail
  go_loopw [13] (fun i wr=>∃ k:Nat,k ≤ n ∧ i = .int .i64 k ∧ Below w.heap.size w wr ∧ Hid (∀ j,j < k → mEq (l.getD j ⟨[],0,[]⟩) (m.getD j ⟨[],0,[]⟩) = true)) (fun i _=>n - (intOf i).toNat)
  case atStart=>exact ⟨0,by omega,rfl,Below.refl _ _,fun j hj=>by omega⟩
  case round=>
   obtain ⟨k,hk,rfl,B,HA⟩:=hrel
   by_cases hlt:k < n
   ·
    have hlt':(k:Int) < n:=by omega
    obtain ⟨b,off,ea,k0,k1,k2⟩:=(SlP.later H1.out B).mats.2.2 k hlt
    obtain ⟨b',off',ea',j0,j1,j2⟩:=(SlP.later H2.out B).mats.2.2 k hlt
    subst ea ea'
    have HX:Hid (∃ x,x = l.getD k ⟨[],0,[]⟩):=⟨_,rfl⟩
    generalize hx:l.getD k ⟨[],0,[]⟩ = x at *
    generalize hy:m.getD k ⟨[],0,[]⟩ = y at *
    have tq:=neq_mt x y
    have gq:=fun x1 x2 W=>guard_mt x1 x2 #[tx x.name,.int .i64 x.kind,tx x.text] #[tx y.name,.int .i64 y.kind,tx y.text] W
    cases hxy:mEq x y with
    | true=>
     rw [hxy] at tq
     have HN:Hid (∀ j,j < k + 1 → mEq (l.getD j ⟨[],0,[]⟩) (m.getD j ⟨[],0,[]⟩) = true):=fun j hj=>by
      by_cases e:j = k
      ·
       subst e;rw [hx,hy,hxy]
      exact HA.out j (by omega)
     clear HA hx hy hxy HX
     go_upto_region 6 with fail
     go_quiet (fail)
     go_wp2_with fail
     refine ⟨⟨k + 1,by omega,by go_num,Fx.below_drewN B _,HN⟩,?_⟩
     simp [intOf];omega
    | false=>
     rw [hxy] at tq
     have HV:Hid (msEq l m = false):=msEq_no (i:=k) (by have:=HE1.out;omega) (by have:=HE2.out;omega) (by rw [hx,hy,hxy])
     clear HA hx hy hxy HX
     go_upto_region 6 with fail
     go_quiet (fail)
     go_wp2_with fail
     go_ret
     exact ⟨by rw [HV.out];rfl,Fx.below_drewN B _⟩
   have hlt':¬ (k:Int) < n:=by omega
   have HV:Hid (msEq l m = true):=msEq_at (by rw [← HE1.out,HE2.out]) (fun i hi=>HA.out i (by have:=HE1.out;omega))
   clear HA
   go_wp2_with fail
   go_ret
   exact ⟨by rw [HV.out];rfl,B⟩
 have t0:((n:Int) != n') = true:=by rw [bne_iff_ne];omega
 have HV:Hid (msEq l m = false):=by
  show _ = _
  cases hq:msEq l m with
  | false=>rfl
  | true=>
   rw [zfp] at hq
   subst hq
   exact absurd (e1.trans e2.symm) hne
 clear e1 e2
 go_enter Tryz.func85,Tryz.ntmps85
 go_wp2_with fail
 go_ret
 exact ⟨by rw [HV.out];rfl,Below.refl _ _⟩
end Go.Proofs.YtjlaihekocjggaaGreatDoor
