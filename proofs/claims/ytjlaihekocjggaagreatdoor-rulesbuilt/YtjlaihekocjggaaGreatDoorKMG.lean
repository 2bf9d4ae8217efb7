/- Texts that the others lean on. -/
import Derived.Test.YtjlaihekocjggaaGreatDoorKMF
import Derived.Test.YtjlaihekocjggaaGreatDoorKMX
set_option maxHeartbeats 16000000
namespace Go.Proofs.YtjlaihekocjggaaGreatDoor
open Go.RowKit
theorem cmp_of (R:Rc) (dp:Int) (u:List Tk → Rs Ex) (hS:Shr u) (hN:RunOK R 307 dp u):RunOK R 202 dp (cmpP R.q u):=by
 have c4:ChainOK R (3 + 1) dp u:=zpa R dp u hN
 have c3:ChainOK R (2 + 1) dp (chP R.q 3 u):=zgl R 3 dp (by decide) (by decide) u hS c4
 have c2:ChainOK R (1 + 1) dp (chP R.q 2 (chP R.q 3 u)):=zgl R 2 dp (by decide) (by decide) _ (zer R.q 3 u hS) c3
 exact zgs R dp _ (zgl R 1 dp (by decide) (by decide) _ (zer R.q 2 _ (zer R.q 3 u hS)) c2)
theorem neg_ok (R:Rc):∀ d:Nat,d ≤ 15 → RunOK R 307 (15 - d) (unD R.q d)
 | 0,_=>zfg R 15 _ _ (deep141_0 R) (deep50_0 R)
 | d + 1,h=>by
  have ih:=neg_ok R d (by omega)
  have e:(15:Int) - ((d + 1:Nat):Int) + 1 = 15 - (d:Int):=by omega
  refine zfg R _ _ _ (deep141_s R _ _ (by omega) (by omega) ?_) (deep50_s R _ _ (by omega) (by omega) ?_)
  ·
   rw [e];exact ih
  rw [e];exact cmp_of R _ _ (zhy R.q d) ih
theorem cmp_ok (R:Rc):RunOK R 202 0 (cmpP R.q (unD R.q 15)):=cmp_of R 0 _ (zhy R.q 15) (neg_ok R 15 (by omega))
def whOut (R:Rc) (w:World) (res:Er ⊕ Ex) (e:Ending) (w':World):Prop:=
 match res with
 | .inr x=>∃ cs j fp fy,e = .returned (.tuple #[.agg cs,.bool true]) ∧ Tr w.heap.size w' x cs ∧ Rd R w' j 0 fp fy ∧ Off [R.b] w w'
 | .inl er=>∃ cs j,e = .returned (.tuple #[.agg cs,.bool false]) ∧ Row 13 cs ∧ Rd R w' j 0 er.1 er.2 ∧ Off [R.b] w w'
set_option maxRecDepth 20000 in
theorem zpj (R:Rc) {w:World} {i:Nat} {fp fy:Int} (h:Rd R w i 0 fp fy):Calls Tryz.prog 126 #[R.ptr] w (whOut R w (whP R.q (R.T.drop i))):=by
 have hbl:=h.bl
 have kc:=cmp_ok R
 have HC:Hid (whP R.q (R.T.drop i) = bnd (cmpP R.q (unD R.q 15) (R.T.drop i)) fun x=>if (hd R.q x.2).k = 0 then .inr x.1 else .inl (bad R.q x.2 71)):=rfl
 generalize whP R.q (R.T.drop i) = RES at *
 generalize cmpP R.q (unD R.q 15) = sp at *
 go_enter Tryz.func126,Tryz.ntmps126
 have O0:=Off.refl [R.b] w
 have a_1:=bZ w
 have zz_1:=fZ w
 have z_2:=a_1.size
 have rd_3:=h.later a_1
 have O_4:=O0.on a_1
 have res_n1:=cZ w
 clear h O0 a_1
 go_upto_region 1 with fail
 generalize w.alloc (.cells zE 28) = w1 at *
 have hc:=kc w1 i fp fy rd_3
 clear kc
 cases hr:sp (R.T.drop i) with
 | inr x=>
  rw [hr] at hc HC
  obtain ⟨e1,l1⟩:=x
  clear hr
  go_wp2_with fail
  refine hc.mono ?_
  rintro e w2 ⟨cs,j,fp2,fy2,rfl,hl1,t2,R2,o2⟩
  dsimp only at hl1
  subst hl1
  have row:=t2.row
  clear hc
  have z_5:=o2.size
  have O_6:=O_4.trans o2 (by simp <;> omega)
  have res_7:=o2.heap res_n1 (by simp <;> omega)
  clear rd_3 O_4 res_n1
  go_upto_region 2 with (refine zcm (w:=w2) rfl 28 _ _ rfl zE cs rfl rfl 13 zae rfl row ?_;intro w3 l3 b3 s3)
  have z_8:=b3.size
  have rd_9:=R2.later b3
  have O_10:=O_6.on b3
  have res_11:=zab b3 res_7
  have t_12:=t2.later b3
  clear R2 O_6 res_7 t2
  have ha:=zao R rd_9
  have hf:=fld0 (hd R.q (R.T.drop j))
  by_cases h0:(hd R.q (R.T.drop j)).k = 0
  ·
   have t0:((hd R.q (R.T.drop j)).k != 0) = false:=by rw [bne_eq_false_iff_eq];exact h0
   have HX:Hid (RES = .inr e1):=by show _ = _;rw [HC.out];show (if (hd R.q (R.T.drop j)).k = 0 then _ else _) = _;rw [if_pos h0]
   clear HC h0
   generalize hd R.q (R.T.drop j) = x at *
   go_wp2_with fail
   refine ha.mono ?_
   rintro e w4 ⟨rfl,b4⟩
   clear ha
   have z_13:=b4.size
   have rd_14:=rd_9.later b4
   have O_15:=O_10.on b4
   have res_16:=zab b4 res_11
   have t_17:=t_12.later b4
   have lc_18:=zab b4 l3
   clear rd_9 O_10 res_11 t_12 l3
   go_wp2_with (first | (refine zaj rfl 28 _ rfl w2.heap.size cs 28 rfl lc_18 _ Tryz.underlying28 rfl 13 zae row.1 ?_) | (refine zad rfl 28 _ _ rfl w.heap.size cs rfl rfl _ 28 res_16 13 zae rfl row ?_;intro we re oe ze))
   have z_19:=oe.size
   have rd_20:=rd_14.off oe (by simp <;> omega)
   have O_21:=O_15.trans oe (by simp <;> omega)
   have t_22:=Tr.off oe (by simp <;> omega) _ t_17
   rw [HX.out]
   exact bodyPost_ret (zai Tryz.results126 _ _ w.heap.size 28 cs _ rfl re Tryz.underlying28 rfl 13 zae row.1) rfl ⟨cs,j,fp2,fy2,rfl,Tr.lower (by omega) _ t_22,rd_20,O_21⟩
  have t0:((hd R.q (R.T.drop j)).k != 0) = true:=by rw [bne_iff_ne];exact h0
  have HX:Hid (RES = .inl ((hd R.q (R.T.drop j)).p,71)):=by show _ = _;rw [HC.out];show (if (hd R.q (R.T.drop j)).k = 0 then _ else _) = _;rw [if_neg h0];rfl
  have hrf:=fun W (hW:Rd R W j 0 fp2 fy2)=>zba R 71 hW
  clear HC h0
  generalize hd R.q (R.T.drop j) = x at *
  go_wp2_with fail
  refine ha.mono ?_
  rintro e w4 ⟨rfl,b4⟩
  clear ha
  have z_13:=b4.size
  have rd_14:=rd_9.later b4
  have O_15:=O_10.on b4
  have res_16:=zab b4 res_11
  clear l3 t_12 rd_9 O_10 res_11
  go_wp2_with fail
  refine (hrf _ rd_14).mono ?_
  rintro e w5 ⟨rfl,R5,o5⟩
  have z_17:=o5.size
  have O_18:=O_15.trans o5 (by simp <;> omega)
  have res_19:=o5.heap res_16 (by simp <;> omega)
  clear rd_14 O_15 res_16
  go_wp2_with (refine zad rfl 28 _ _ rfl w.heap.size zE rfl rfl _ 28 res_19 13 zae rfl rowZ ?_;intro we re oe ze)
  have z_20:=oe.size
  have rd_21:=R5.off oe (by simp <;> omega)
  have O_22:=O_18.trans oe (by simp <;> omega)
  rw [HX.out]
  exact bodyPost_ret (zai Tryz.results126 _ _ w.heap.size 28 zE _ rfl re Tryz.underlying28 rfl 13 zae rfl) rfl ⟨zE,j,rfl,rowZ,rd_21,O_22⟩
 | inl er=>
  rw [hr] at hc HC
  have HX:Hid (RES = .inl er):=HC
  clear HC hr
  go_wp2_with fail
  refine hc.mono ?_
  rintro e w2 ⟨cs,j,rfl,row,R2,o2⟩
  clear hc
  have z_5:=o2.size
  have O_6:=O_4.trans o2 (by simp <;> omega)
  have res_7:=o2.heap res_n1 (by simp <;> omega)
  clear rd_3 O_4 res_n1
  go_upto_region 2 with (refine zcm (w:=w2) rfl 28 _ _ rfl zE cs rfl rfl 13 zae rfl row ?_;intro w3 l3 b3 s3)
  have z_8:=b3.size
  have rd_9:=R2.later b3
  have O_10:=O_6.on b3
  have res_11:=zab b3 res_7
  clear R2 O_6 res_7
  go_wp2_with (first | (refine zaj rfl 28 _ rfl w2.heap.size cs 28 rfl l3 _ Tryz.underlying28 rfl 13 zae row.1 ?_) | (refine zad rfl 28 _ _ rfl w.heap.size cs rfl rfl _ 28 res_11 13 zae rfl row ?_;intro we re oe ze))
  have z_12:=oe.size
  have rd_13:=rd_9.off oe (by simp <;> omega)
  have O_14:=O_10.trans oe (by simp <;> omega)
  rw [HX.out]
  exact bodyPost_ret (zai Tryz.results126 _ _ w.heap.size 28 cs _ rfl re Tryz.underlying28 rfl 13 zae row.1) rfl ⟨cs,j,rfl,row,rd_13,O_14⟩
theorem endP_at {T:List Tk} (h:0 < T.length):endP T = (T.getD (T.length - 1) tk0).p:=by
 unfold endP
 rw [List.getLast?_eq_getElem?]
 have hl:T.length - 1 < T.length:=by omega
 simp [List.getD,List.getElem?_eq_getElem hl]
theorem endOf_any (ta:Option Addr) (n c:Nat) (T:List Tk) (w:World) (hn:n ≤ 1000000) (h:Ts w ta n T):Calls Tryz.prog 125 #[.slice ta n c] w fun e w'=>e = .returned (.agg #[.int .i64 (endP T)]) ∧ Below w.heap.size w w':=by
 by_cases h0:n = 0
 ·
  subst h0
  obtain rfl:T = []:=List.length_eq_zero_iff.1 h.1
  clear h
  go_enter Tryz.func125,Tryz.ntmps125
  go_wp2_with fail
  exact bodyPost_ret (zak Tryz.results125 _ _ w.heap.size 165 #[.int .i64 0] _ rfl (zac w _) Tryz.underlying165 rfl 1 inf58 rfl) rfl ⟨rfl,bal (Below.refl _ _) _⟩
 obtain ⟨b,off,hta,-⟩:=h.2 (by omega)
 have hl:=h.1
 rw [endP_at (by omega),hl]
 rw [hta] at h
 obtain ⟨m,hm⟩:∃ m,n = m + 1:=⟨n - 1,by omega⟩
 subst hm
 have q:=(h.at m (by omega)).2.1
 have hlt:=World.block_lt_of_cell? _ _ q
 rw [show m + 1 - 1 = m from rfl,hta]
 generalize (T.getD m tk0).p = z at *
 have t0:(((m:Int) + 1) == 0) = false:=beq_eq_false_iff_ne.2 (by omega)
 have e1:(m:Int) + 1 - 1 = m:=by omega
 have hq:(b:Nat) < w.heap.size:=hlt
 clear h hta hl h0 hlt
 go_enter Tryz.func125,Tryz.ntmps125
 go_wp2_with fail
 exact bodyPost_ret (zak Tryz.results125 _ _ w.heap.size 165 #[.int .i64 z] _ rfl (zac w _) Tryz.underlying165 rfl 1 inf58 rfl) rfl ⟨rfl,bal (Below.refl _ _) _⟩
theorem zax {fn:Func} {p u v:Tmp} {ty:TypeId} (h:fn.results = #[.cell p ty,.tmp u,.tmp v]) (tmps:Array Value) (w:World) (g:Nat) (t:TypeId) (cs:Array Value) (d:TypeDesc) (hp:tmps.getD p undef = .pointer (some ⟨g,0,none⟩)) (hg:w.heap[g]? = some (.cells cs t))
  (hu:Tryz.prog.underlying ty = some d) (hd:d.isRow = true) (n:Nat) (hi:(Tryz.prog.info? ty).map (·.size) = some n) (hn:cs.size = n):(results fn tmps).run Tryz.prog w = .ok (.tuple #[.agg cs,tmps.getD u undef,tmps.getD v undef]) w:=by
 have e:(loadVar ty ⟨g,0,none⟩).run Tryz.prog w = .ok (.agg cs) w:=run_loadVar_row w g t ty cs (0,0) d hg hu (by cases d <;> simp_all [TypeDesc.isRow]) (by rw [hi,hn])
 have q:∀ (P:Program),(results fn tmps).run P w = ((asAddr (tmps.getD p undef)).run P w).andThen fun a w₁=>((loadVar ty a).run P w₁).andThen fun x w₂=>.ok (.tuple #[x,tmps.getD u undef,tmps.getD v undef]) w₂:=fun P=>by
  simp only [results,h]
  simp [Sem.run_bind,Result.andThen]
 rw [q,hp]
 have e2:(asAddr (.pointer (some ⟨g,0,none⟩))).run Tryz.prog w = .ok ⟨g,0,none⟩ w:=by simp [asAddr,go_sem]
 rw [e2]
 simp only [Result.andThen,e]
def HeldF (b:Nat) (p y:Int) (W:World):Prop:=W.cell? ⟨b,4,none⟩ = some (.int .i64 p) ∧ W.cell? ⟨b,5,none⟩ = some (.int .i64 y)
set_option maxRecDepth 20000 in
theorem zdm (ta:Option Addr) (n c:Nat) (T:List Tk) (w:World) (hn:n ≤ 1000000) (h:Ts w ta n T):Calls Tryz.prog 74 #[.slice ta n c] w fun e w'=>∃ cs,e = .returned (.tuple #[.agg cs,.int .i64 (rdA T),.int .i64 (rdE T)]) ∧ Tr w.heap.size w' (rdX T) cs ∧ Below w.heap.size w w':=by
 have hlt:∀ a,ta = some a → 0 < n → a.block < w.heap.size:=fun a ha hp=>by
  obtain ⟨b,off,e,hc⟩:=h.2 hp
  rw [ha] at e
  injection e with e
  subst e
  exact World.block_lt_of_cell? _ _ (hc 0 hp 0 (by omega))
 have hen:=fun W (hW:Ts W ta n T)=>endOf_any ta n c T W hn hW
 have HD:Hid (∀ r,whP (endP T) T = r → rdA T = (match r with | .inl er=>er.1 | .inr _=>0) ∧ rdE T = (match r with | .inl er=>er.2 | .inr _=>0) ∧ rdX T = (match r with | .inl _=>ex0 | .inr e=>e)):=fun r hr=>by
  unfold rdA rdE rdX rdP
  rw [hr]
  exact ⟨rfl,rfl,rfl⟩
 generalize rdA T = vA at *
 generalize rdE T = vE at *
 generalize rdX T = vX at *
 generalize endP T = q at *
 have hts:=h.later (bal (Below.refl _ _) (.cells zE 28))
 have r0:=zac w (.cells zE 28)
 have B0:=bal (Below.refl w.heap.size w) (.cells zE 28)
 have zz:=zaf w (.cells zE 28)
 go_enter Tryz.func74,Tryz.ntmps74
 go_wp2_with fail
 refine (hen _ hts).mono ?_
 rintro e w1 ⟨rfl,b1⟩
 have ts1:=hts.later b1
 have r1:=zab b1 r0
 have B1:=Below.chain B0 b1
 have z1:=b1.size
 clear hts r0 B0 b1 hen
 obtain ⟨R,hR⟩:∃ R:Rc,R = ⟨w1.heap.size,ta,n,c,T,q⟩:=⟨_,rfl⟩
 have rdn:=zac w1 (.cells #[.slice ta n c,.int .i64 0,.int .i64 q,.int .i64 0,.int .i64 0,.int .i64 0] 170)
 have b2:=bal (Below.refl w1.heap.size w1) (.cells #[.slice ta n c,.int .i64 0,.int .i64 q,.int .i64 0,.int .i64 0,.int .i64 0] 170)
 have z2:=zaf w1 (.cells #[.slice ta n c,.int .i64 0,.int .i64 q,.int .i64 0,.int .i64 0,.int .i64 0] 170)
 have r2:=zab b2 r1
 have B2:=Below.chain B1 b2
 have R2:Rd R (w1.alloc (.cells #[.slice ta n c,.int .i64 0,.int .i64 q,.int .i64 0,.int .i64 0,.int .i64 0] 170)) 0 0 0 0:=by
  subst hR
  exact ⟨rdn,ts1.later b2,fun a ha hp=>by have:=hlt a ha hp;show a.block < w1.heap.size;omega,Nat.zero_le _,hn⟩
 have hw:=zpj R R2
 have e1:whP R.q (R.T.drop 0) = whP q T:=by subst hR;rfl
 rw [e1] at hw
 have hRb:R.b = w1.heap.size:=by rw [hR]
 have hptr:R.ptr = .pointer (some ⟨w1.heap.size,0,none⟩):=by rw [hR]
 rw [hptr] at hw
 clear rdn b2 r1 ts1 e1 hR hptr hlt h
 go_upto_region 2 with fail
 generalize w1.alloc (.cells #[.slice ta n c,.int .i64 0,.int .i64 q,.int .i64 0,.int .i64 0,.int .i64 0] 170) = w2 at *
 cases hr:whP q T with
 | inr x=>
  rw [hr] at hw
  obtain ⟨a1,a2,a3⟩:=HD.out _ hr
  dsimp only at a1 a2 a3
  subst a1 a2 a3
  clear HD hr
  go_wp2_with fail
  refine hw.mono ?_
  rintro e w3 ⟨cs,j,fp,fy,rfl,t3,R3,o3⟩
  have row:=t3.row
  have r3:=o3.heap r2 (by rw [hRb];simp <;> omega)
  have z3:=o3.size
  have B3:Off [w1.heap.size] w w3:=(Off.of B2 _).trans o3 (by rw [hRb];simp)
  clear hw R2 r2 B2 o3 R3
  go_upto_region 3 with (refine zcm (w:=w3) rfl 28 _ _ rfl zE cs rfl rfl 13 zae rfl row ?_;intro w4 l4 b4 s4)
  have r4:=zab b4 r3
  have B4:=B3.on b4
  have t4:=t3.later b4
  go_wp2_with (first | (refine zaj rfl 28 _ rfl w3.heap.size cs 28 rfl l4 _ Tryz.underlying28 rfl 13 zae row.1 ?_) | (refine zad rfl 28 _ _ rfl w.heap.size cs rfl rfl _ 28 r4 13 zae rfl row ?_;intro we re oe ze))
  have B5:=B4.trans oe (by simp <;> omega)
  exact bodyPost_ret (zax Tryz.results74 _ _ w.heap.size 28 cs _ rfl re Tryz.underlying28 rfl 13 zae row.1) rfl ⟨cs,rfl,Tr.lower (by omega) _ (Tr.off oe (by simp <;> omega) _ t4),B5.below (by simp <;> omega)⟩
 | inl er=>
  rw [hr] at hw
  obtain ⟨a1,a2,a3⟩:=HD.out _ hr
  dsimp only at a1 a2 a3
  subst a1 a2 a3
  clear HD hr
  go_wp2_with fail
  refine hw.mono ?_
  rintro e w3 ⟨cs,j,rfl,row,R3,o3⟩
  have r3:=o3.heap r2 (by rw [hRb];simp <;> omega)
  have z3:=o3.size
  have B3:Off [w1.heap.size] w w3:=(Off.of B2 _).trans o3 (by rw [hRb];simp)
  have k4:=R3.c4
  have k5:=R3.c5
  rw [hRb] at k4 k5
  clear hw R2 r2 B2 o3 R3
  go_upto_region 4 with (refine zcm (w:=w3) rfl 28 _ _ rfl zE cs rfl rfl 13 zae rfl row ?_;intro w4 l4 b4 s4)
  have r4:=zab b4 r3
  have B4:=B3.on b4
  have q4:w4.cell? ⟨w1.heap.size,4,none⟩ = some (.int .i64 er.1):=(b4.cell (p:=⟨w1.heap.size,4,none⟩) (World.block_lt_of_cell? _ _ k4)).trans k4
  have q5:w4.cell? ⟨w1.heap.size,5,none⟩ = some (.int .i64 er.2):=(b4.cell (p:=⟨w1.heap.size,5,none⟩) (World.block_lt_of_cell? _ _ k5)).trans k5
  clear k4 k5 r3 B3 b4
  have dr:=zag w4
  have S5:HeldF w1.heap.size er.1 er.2 (World.drew w4):=⟨(dr.cell (p:=⟨w1.heap.size,4,none⟩) (World.block_lt_of_cell? _ _ q4)).trans q4,(dr.cell (p:=⟨w1.heap.size,5,none⟩) (World.block_lt_of_cell? _ _ q5)).trans q5⟩
  have r5:=zab dr r4
  have B5:=B4.on dr
  have q4':=(dr.cell (p:=⟨w1.heap.size,4,none⟩) (World.block_lt_of_cell? _ _ q4)).trans q4
  have q5':=(dr.cell (p:=⟨w1.heap.size,5,none⟩) (World.block_lt_of_cell? _ _ q5)).trans q5
  clear dr r4 B4 q4 q5
  refine wp_region_noPanic ?_
  refine wp_region_held_drew (S:=HeldF w1.heap.size er.1 er.2) (by kernel_rfl) ?_ (fun _=>?_)
  ·
   exact S5
  generalize w4.drew = w5 at *
  refine tk 0 18 (.agg zE) rfl (fun W hSw=>by go_simp) S5 ?_
  simp only [Act.put,pB,pC,pD]
  refine tk 1 19 (.pointer (some ⟨w1.heap.size,4,none⟩)) rfl (fun W hSw=>by go_simp) S5 ?_
  simp only [Act.put,pB,pC,pD]
  refine tk 2 20 (.pointer (some ⟨w1.heap.size,4,none⟩)) rfl (fun W hSw=>by go_simp) S5 ?_
  simp only [Act.put,pB,pC,pD]
  refine tk 3 21 (.pointer (some ⟨w1.heap.size,4,none⟩)) rfl (fun W hSw=>by go_simp) S5 ?_
  simp only [Act.put,pB,pC,pD]
  refine tk 4 22 (.int .i64 er.1) rfl (fun W hSw=>by (obtain ⟨s1,s2⟩:=hSw;go_simp)) S5 ?_
  simp only [Act.put,pB,pC,pD]
  refine tk 5 23 (.pointer (some ⟨w1.heap.size,4,none⟩)) rfl (fun W hSw=>by go_simp) S5 ?_
  simp only [Act.put,pB,pC,pD]
  refine tk 6 24 (.pointer (some ⟨w1.heap.size,5,none⟩)) rfl (fun W hSw=>by go_simp) S5 ?_
  simp only [Act.put,pB,pC,pD]
  refine tk 7 25 (.int .i64 er.2) rfl (fun W hSw=>by (obtain ⟨s1,s2⟩:=hSw;go_simp)) S5 ?_
  simp only [Act.put,pB,pC,pD]
  refine wpAnyH_ready (rs:=[8]) (by kernel_rfl) (by simp) ?_
  refine aR rfl fun K hK=>?_
  refine zbw 28 _ _ none rfl rfl (by rfl) w.heap.size zE rfl rfl _ 28 r5 13 zae rfl rowZ ?_
  intro we re oe ze
  have S6:HeldF w1.heap.size er.1 er.2 we:=⟨oe.cell q4' (by simp <;> omega),oe.cell q5' (by simp <;> omega)⟩
  refine hK.out _ _ ?_ (fun _=>?_)
  ·
   exact S6
  clear hK K
  refine tk 9 3 (.int .i64 er.1) rfl (fun W hSw=>by go_simp) S6 ?_
  simp only [Act.put,pB,pC,pD]
  refine tk 10 4 (.int .i64 er.2) rfl (fun W hSw=>by go_simp) S6 ?_
  simp only [Act.put,pB,pC,pD]
  refine wpAnyH_done (by kernel_rfl) ?_ _
  refine NoPanic.normal ?_
  go_wp2_with fail
  have B6:=B5.trans oe (by simp <;> omega)
  exact bodyPost_ret (zax Tryz.results74 _ _ w.heap.size 28 zE _ rfl re Tryz.underlying28 rfl 13 zae rfl) rfl ⟨zE,rfl,Tr.leaf (Sl.nil _ _ _) (Sl.nil _ _ _),B6.below (by simp <;> omega)⟩
def psE (s:Str):Int:=if scE s = 0 then rdE (scL s) else scE s
def psA (s:Str):Int:=if scE s = 0 then rdA (scL s) else scP s
def psX (s:Str):Ex:=if scE s = 0 then rdX (scL s) else ex0
theorem scL_len (s:Str):(scL s).length ≤ 601:=by
 by_cases hb:600 < s.length
 ·
  rw [(zmp hb).2.2]
  simp
 have:=(zeg s).1
 omega
set_option maxRecDepth 20000 in
theorem parse_any (s:Str) (w:World) (hs:s.length ≤ 1000000) (he:Ev w):Calls Tryz.prog 35 #[tx s] w fun e w'=>∃ cs,e = .returned (.tuple #[.agg cs,.int .i64 (psA s),.int .i64 (psE s)]) ∧ Tr w.heap.size w' (psX s) cs ∧ Below w.heap.size w w':=by
 have hsc:=zmo s (w.alloc (.cells zE 28)) hs (he.later (bal (Below.refl _ _) _))
 have r0:=zac w (.cells zE 28)
 have B0:=bal (Below.refl w.heap.size w) (.cells zE 28)
 have z0:=zaf w (.cells zE 28)
 have hln:=scL_len s
 unfold psE psA psX
 generalize scL s = T at *
 generalize scP s = vP at *
 by_cases h0:scE s = 0
 ·
  rw [if_pos h0,if_pos h0,if_pos h0]
  rw [h0] at hsc
  clear h0
  go_enter Tryz.func35,Tryz.ntmps35
  go_wp2_with fail
  refine hsc.mono ?_
  rintro e w1 ⟨v,rfl,own,b1⟩
  obtain ⟨ao,cap,rfl,ts,_,_⟩:=own.slice
  have r1:=zab b1 r0
  have B1:=Below.chain B0 b1
  have z1:=b1.size
  have hr:=zdm ao T.length cap T w1 (by omega) ts
  generalize T.length = tn at *
  generalize hvA:rdA T = vA at *
  generalize hvE:rdE T = vE at *
  clear hsc r0 B0 b1 own ts
  go_wp2_with fail
  refine hr.mono ?_
  rintro e w2 ⟨cs,rfl,t2,b2⟩
  have row:=t2.row
  have r2:=zab b2 r1
  have B2:=Below.chain B1 b2
  have z2:=b2.size
  clear hr r1 B1 b2
  go_wp2_with (refine zad rfl 28 _ _ rfl w.heap.size cs rfl rfl _ 28 r2 13 zae rfl row ?_;intro we re oe ze)
  have B3:=(Off.of B2 [w.heap.size]).then oe
  exact bodyPost_ret (zax Tryz.results35 _ _ w.heap.size 28 cs _ rfl re Tryz.underlying28 rfl 13 zae row.1) rfl ⟨cs,by rw [hvA,hvE];rfl,Tr.lower (by omega) _ (Tr.off oe (by simp <;> omega) _ t2),B3.below (by simp <;> omega)⟩
 rw [if_neg h0,if_neg h0,if_neg h0]
 have h1:(scE s != 0) = true:=by rw [bne_iff_ne];exact h0
 clear h0
 generalize scE s = vE at *
 go_enter Tryz.func35,Tryz.ntmps35
 go_wp2_with fail
 refine hsc.mono ?_
 rintro e w1 ⟨v,rfl,own,b1⟩
 have r1:=zab b1 r0
 have B1:=Below.chain B0 b1
 obtain ⟨ao,cap,rfl,_,_,_⟩:=own.slice
 generalize T.length = tn at *
 clear hsc r0 B0 b1 own
 go_wp2_with (refine zad rfl 28 _ _ rfl w.heap.size zE rfl rfl _ 28 r1 13 zae rfl rowZ ?_;intro we re oe ze)
 have B3:=(Off.of B1 [w.heap.size]).then oe
 exact bodyPost_ret (zax Tryz.results35 _ _ w.heap.size 28 zE _ rfl re Tryz.underlying28 rfl 13 zae rfl) rfl ⟨zE,rfl,Tr.leaf (Sl.nil _ _ _) (Sl.nil _ _ _),B3.below (by simp <;> omega)⟩
end Go.Proofs.YtjlaihekocjggaaGreatDoor
