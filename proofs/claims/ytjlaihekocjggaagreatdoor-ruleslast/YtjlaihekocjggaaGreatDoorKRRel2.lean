/- Texts that the others lean on. -/
import Derived.Test.YtjlaihekocjggaaGreatDoorKRRel
set_option maxHeartbeats 16000000
namespace Go.Proofs.YtjlaihekocjggaaGreatDoor
open Go.RowKit
theorem zht (l:Str) (i:Nat):(((scL l).map (·.t)).getD i []).length ≤ 1000000:=by
 by_cases h:i < (scL l).length
 ·
  have e:((scL l).map (·.t)).getD i [] = ((scL l)[i]).t:=by simp [List.getD,List.getElem?_eq_getElem h]
  rw [e]
  exact (Tf.scL_ft l _ (List.getElem_mem h)).2.1
 have e:((scL l).map (·.t)).getD i [] = []:=by simp [List.getD,List.getElem?_eq_none (show (scL l).length ≤ i by omega)]
 rw [e]
 simp
theorem rlP_ok {l:Str} (h:scE l = 0):rlP l = rlOf [((scL l).map (·.t)).getD 0 [],((scL l).map (·.t)).getD 1 [],((scL l).map (·.t)).getD 2 [],((scL l).map (·.t)).getD 3 [],((scL l).map (·.t)).getD 4 [],((scL l).map (·.t)).getD 5 []]:=by
 unfold rlP
 rw [if_pos h]
 rfl
theorem rlOf_fit (t0 t1 t2 t3 t4 t5:Str) (h1:Big t1) (h3:Big t3) (h4:Big t4) (h5:Big t5):Lb.FitR (rlOf [t0,t1,t2,t3,t4,t5]):=by
 have h0:Big ([]:Str):=by unfold Big;simp
 rw [rlOf_eq]
 split
 ·
  exact ⟨h1,h3,h0,h0⟩
 split
 ·
  exact ⟨h1,h3,h0,h0⟩
 split
 ·
  exact ⟨h1,h3,h4,h5⟩
 split
 ·
  exact ⟨h0,h1,h0,h0⟩
 exact ⟨h0,h0,h0,h0⟩
set_option maxRecDepth 20000 in
theorem zib (l:Str) (w:World) (hs:l.length ≤ 900000) (he:Ev w):Calls Tryz.prog 172 #[tx l] w fun e w'=>e = .returned (.tuple #[.agg (rA (rlP l)),.bool (rlOk l)]) ∧ Below w.heap.size w w':=by
 have B0:=bal (Below.refl w.heap.size w) (.cells #[.int .i64 0,.string ⟨#[]⟩,.int .i64 0,.string ⟨#[]⟩,.string ⟨#[]⟩,.string ⟨#[]⟩] 59)
 have q0:=zac w (.cells #[.int .i64 0,.string ⟨#[]⟩,.int .i64 0,.string ⟨#[]⟩,.string ⟨#[]⟩,.string ⟨#[]⟩] 59)
 have e0:=he.later B0
 have hsc:=zmo l (w.alloc (.cells #[.int .i64 0,.string ⟨#[]⟩,.int .i64 0,.string ⟨#[]⟩,.string ⟨#[]⟩,.string ⟨#[]⟩] 59)) (by omega) e0
 have HO:Hid (rlOk l = (decide (scE l = 0) && (Lb.fPrintR (rlP l) == l))):=rfl
 by_cases hz:scE l = 0
 ·
  have HP:=rlP_ok hz
  have hfr:Lb.FitR (rlP l):=by
   rw [HP]
   exact rlOf_fit _ _ _ _ _ _ (by have:=zht l 1;unfold Big;omega) (by have:=zht l 3;unfold Big;omega) (by have:=zht l 4;unfold Big;omega) (by have:=zht l 5;unfold Big;omega)
  have hpr:=fun W (h:Mx W)=>Lb.printR_any (rlP l) W hfr h
  have htx:=fun ao cap W (h:Ts W ao (scL l).length (scL l))=>texts_any ao _ cap (scL l) W (by have:=(zeg l).1;omega) h
  have hre:=fun W=>relOf_any (((scL l).map (·.t)).getD 0 []) (((scL l).map (·.t)).getD 1 []) (((scL l).map (·.t)).getD 2 []) (((scL l).map (·.t)).getD 3 []) (((scL l).map (·.t)).getD 4 []) (((scL l).map (·.t)).getD 5 []) W
  rw [← HP] at hre
  have HO2:Hid (rlOk l = (Lb.fPrintR (rlP l) == l)):=by show _ = _;rw [HO.out,hz];simp
  have hz1:(scE l != 0) = false:=by rw [bne_eq_false_iff_eq];exact hz
  have hz2:(scE l == 0) = true:=beq_iff_eq.2 hz
  clear HO HP hz hfr he
  generalize ((scL l).map (·.t)).getD 0 [] = t0 at *
  generalize ((scL l).map (·.t)).getD 1 [] = t1 at *
  generalize ((scL l).map (·.t)).getD 2 [] = t2 at *
  generalize ((scL l).map (·.t)).getD 3 [] = t3 at *
  generalize ((scL l).map (·.t)).getD 4 [] = t4 at *
  generalize ((scL l).map (·.t)).getD 5 [] = t5 at *
  generalize rlP l = r at *
  generalize Lb.fPrintR r = pt at *
  go_enter Tryz.func172,Tryz.ntmps172
  go_wp2_with fail
  generalize w.alloc (.cells #[.int .i64 0,.string ⟨#[]⟩,.int .i64 0,.string ⟨#[]⟩,.string ⟨#[]⟩,.string ⟨#[]⟩] 59) = w0 at *
  refine hsc.mono ?_
  rintro e w1 ⟨v,rfl,own,b1⟩
  obtain ⟨ao,cap,rfl,ts,_⟩:=own.slice
  have q1:=zab b1 q0
  have B1:=Below.chain B0 b1
  have e1:=e0.later b1
  go_wp2_with fail
  refine (htx ao cap _ ts).mono ?_
  rintro e w2 ⟨rfl,b2⟩
  go_wp2_with fail
  refine (hre _).mono ?_
  rintro e w3 ⟨rfl,b3⟩
  have b13:=Below.chain b2 b3
  have q3:=zab b13 q1
  have B3:=Below.chain B1 b13
  have e3:=e1.later b13
  clear own ts htx hre hsc q1 B1 e1 b13
  go_upto_region 5 with (refine zad rfl 59 _ _ rfl w3.heap.size (rA r) rfl rfl _ 59 (zac w3 (.cells #[.int .i64 0,.string ⟨#[]⟩,.int .i64 0,.string ⟨#[]⟩,.string ⟨#[]⟩,.string ⟨#[]⟩] 59)) 6 rz59 rfl ⟨rfl,rfl⟩ ?_;intro w4 p4 o4 z4;have b34:=((Off.of (bal (Below.refl w3.heap.size w3) (.cells #[.int .i64 0,.string ⟨#[]⟩,.int .i64 0,.string ⟨#[]⟩,.string ⟨#[]⟩,.string ⟨#[]⟩] 59)) []).trans o4 (by simp)).below (by simp))
  have q4:=zab b34 q3
  have B4:=Below.chain B3 b34
  have e4:=e3.later b34
  have q5:=zab (zag w4) q4
  have p5:=zab (zag w4) p4
  have B5:=Below.chain B4 (zag w4)
  have e5:=e4.later (zag w4)
  clear q3 B3 e3 q4 p4 B4 e4 o4 z4 b34
  refine wp_region_noPanic ?_
  refine wp_region_held_drew (S:=fun W=>W.heap[w3.heap.size]? = some (.cells (rA r) 59)) (by kernel_rfl) ?_ (fun _=>?_)
  ·
   exact p5
  generalize w4.drew = wd at *
  refine tk 0 20 (.agg (rA r)) rfl (fun W hSw=>by exact zar 59 _ rfl w3.heap.size (rA r) 59 rfl W hSw _ Tryz.underlying59 rfl 6 rz59 rfl) p5 ?_
  simp only [Act.put,pB,pC,pD]
  refine tk 1 21 (.agg (rA r)) rfl (fun W hSw=>by exact zar 59 _ rfl w3.heap.size (rA r) 59 rfl W hSw _ Tryz.underlying59 rfl 6 rz59 rfl) p5 ?_
  simp only [Act.put,pB,pC,pD]
  refine tk 3 23 (tx l) rfl (fun W hSw=>by go_simp) p5 ?_
  simp only [Act.put,pB,pC,pD]
  refine wpAnyH_ready (rs:=[2]) (by kernel_rfl) (by simp) ?_
  refine aR rfl fun K hK=>?_
  go_simp
  refine (hpr _ e5.mx).mono ?_
  rintro e w6 ⟨rfl,b6⟩
  have p6:=zab b6 p5
  have q6:=zab b6 q5
  have B6:=Below.chain B5 b6
  refine hK.out _ _ ?_ (fun _=>?_)
  ·
   exact p6
  clear hK K
  refine tk 4 24 (.bool (pt == l)) rfl (fun W hSw=>by go_simp) p6 ?_
  simp only [Act.put,pB,pC,pD]
  refine wpAnyH_ready (rs:=[5]) (by kernel_rfl) (by simp) ?_
  refine aR rfl fun K hK=>?_
  refine zbw 59 _ _ none rfl rfl (by rfl) w.heap.size (rA r) rfl rfl _ 59 q6 6 rz59 rfl ⟨rfl,rfl⟩ ?_
  intro w7 q7 o7 z7
  have p7:=o7.heap p6 (by have:=zah q0;have:=b1.size;have:=b2.size;have:=b3.size;simp;omega)
  have B7:=((Off.of B6 []).trans o7 (by simp)).below (by simp)
  refine hK.out _ _ ?_ (fun _=>?_)
  ·
   exact p7
  clear hK K
  refine tk 6 3 (.bool (pt == l)) rfl (fun W hSw=>by go_simp) p7 ?_
  simp only [Act.put,pB,pC,pD]
  refine wpAnyH_done (by kernel_rfl) ?_ _
  refine NoPanic.normal ?_
  go_wp2_with fail
  exact bodyPost_ret (zai Tryz.results172 _ _ w.heap.size 59 (rA r) _ rfl q7 Tryz.underlying59 rfl 6 rz59 rfl) rfl ⟨by rw [HO2.out];rfl,B7⟩
 have HP:Hid (rlP l = ⟨0,⟨[],0,[]⟩,[],[]⟩):=by show _ = _;unfold rlP;rw [if_neg hz]
 have HO2:Hid (rlOk l = false):=by show _ = _;rw [HO.out];simp [hz]
 have hz1:(scE l != 0) = true:=by rw [bne_iff_ne];exact hz
 have hz2:(scE l == 0) = false:=beq_eq_false_iff_ne.2 hz
 clear HO hz he
 go_enter Tryz.func172,Tryz.ntmps172
 go_wp2_with fail
 generalize w.alloc (.cells #[.int .i64 0,.string ⟨#[]⟩,.int .i64 0,.string ⟨#[]⟩,.string ⟨#[]⟩,.string ⟨#[]⟩] 59) = w0 at *
 refine hsc.mono ?_
 rintro e w1 ⟨v,rfl,own,b1⟩
 obtain ⟨ao,cap,rfl,ts,_⟩:=own.slice
 have q1:=zab b1 q0
 have B1:=Below.chain B0 b1
 go_wp2_with (refine zad rfl 59 _ _ rfl w.heap.size (rA ⟨0,⟨[],0,[]⟩,[],[]⟩) rfl rfl _ 59 q1 6 rz59 rfl ⟨rfl,rfl⟩ ?_;intro w9 q9 o9 z9)
 exact bodyPost_ret (zai Tryz.results172 _ _ w.heap.size 59 (rA ⟨0,⟨[],0,[]⟩,[],[]⟩) _ rfl q9 Tryz.underlying59 rfl 6 rz59 rfl) rfl ⟨by rw [HO2.out,HP.out];rfl,((Off.of B1 []).trans o9 (by simp)).below (by simp)⟩
theorem info59:(Tryz.prog.info? 59).map (fun i=>(i.zero,i.size,i.bytes)) = some (some (.agg #[.int .i64 0,tx [],.int .i64 0,tx [],tx [],tx []]),6,80):=by kernel_rfl
theorem zjv:∃ i,Tryz.prog.info? 59 = some i ∧ i.zero = some (.agg #[.int .i64 0,tx [],.int .i64 0,tx [],tx [],tx []]) ∧ i.size = 6 ∧ i.bytes = 80:=by
 have h:=info59
 cases hi:Tryz.prog.info? 59 with
 | none=>rw [hi] at h;cases h
 | some i=>
  rw [hi] at h
  simp only [Option.map_some,Option.some.injEq,Prod.mk.injEq] at h
  exact ⟨i,rfl,h.1,h.2.1,h.2.2⟩
theorem rz36:(Tryz.prog.info? 36).map (·.size) = some 1:=by kernel_rfl
theorem Rdg.viewL {base:Nat} {F:Nat → Prop} {w:World} {b:Nat} {c:Cf} {vr vg:Value} {vs:List Value} (h:Rdg base F w b c vr vg vs):∃ ao cap,vr = .slice ao c.rl.length cap:=zav h.rl
set_option maxRecDepth 20000 in
theorem takeL_any {wb w:World} {F:Nat → Prop} {b:Nat} {c:Cf} {vr vg:Value} {vs:List Value} (h:Rdg wb.heap.size F w b c vr vg vs) (he:Ev wb) (hB:Below wb.heap.size wb w) (hc6:c.rl.length ≤ 6) (hc3:c.gs.length ≤ 3) (l:Str) (hs:l.length ≤ 90000) :
  Calls Tryz.prog 94 #[.pointer (some ⟨b,0,none⟩),tx l] w (TkOut wb w F b (stL c l)):=by
 have hB0:Below wb.heap.size wb (w.alloc (.cells #[.int .i64 0,.int .i64 0] 87)):=bal hB (.cells #[.int .i64 0,.int .i64 0] 87)
 have kT0:Kt w (w.alloc (.cells #[.int .i64 0,.int .i64 0] 87)):=(Kt.refl w).later (bal (Below.refl w.heap.size w) (.cells #[.int .i64 0,.int .i64 0] 87))
 have h0:=h.later (bal (Below.refl w.heap.size w) (.cells #[.int .i64 0,.int .i64 0] 87))
 have q0:=zac w (.cells #[.int .i64 0,.int .i64 0] 87)
 have hzz:=h.lt
 have hzb:=hB.size
 have hho:=zib l (w.alloc (.cells #[.int .i64 0,.int .i64 0] 87)) (by omega) (he.later hB0)
 have hnF:¬ F w.heap.size:=fun hq=>by have:=(h.fr _ hq).1;omega
 unfold stL
 clear h hB he
 generalize rlOk l = o at *
 generalize rlP l = r at *
 cases o with
 | false=>
  rw [if_neg (by simp)]
  go_enter Tryz.func94,Tryz.ntmps94
  go_wp2_with fail
  generalize w.alloc (.cells #[.int .i64 0,.int .i64 0] 87) = w0 at *
  refine hho.mono ?_
  rintro e w1 ⟨rfl,b1⟩
  have h1:=h0.later b1
  have q1:=zab b1 q0
  have hB1:=hB0.trans (b1.mono hB0.size)
  have kT1:=kT0.later b1
  have z1:=zah q1
  go_wp2_with (first | (refine zad rfl 59 _ _ rfl w1.heap.size (rA r) rfl rfl _ 59 (zac w1 (.cells #[.int .i64 0,.string ⟨#[]⟩,.int .i64 0,.string ⟨#[]⟩,.string ⟨#[]⟩,.string ⟨#[]⟩] 59)) 6 rz59 rfl ⟨rfl,rfl⟩ ?_;intro w3 p3 o3 z3;have b13:=((Off.of (bal (Below.refl w1.heap.size w1) (.cells #[.int .i64 0,.string ⟨#[]⟩,.int .i64 0,.string ⟨#[]⟩,.string ⟨#[]⟩,.string ⟨#[]⟩] 59)) []).trans o3 (by simp)).below (by simp);have q3:=zab b13 q1;have hB3:=hB1.trans (b13.mono hB1.size);have kT3:=kT1.later b13;have h3':=h1.later b13;have d0:=(zaa h3'.hd 0).trans rfl;have d1:=(zaa h3'.hd 1).trans rfl) | (refine zad rfl 87 _ _ rfl w.heap.size #[.int .i64 0,.int .i64 12] rfl rfl _ 87 q3 2 rz87 rfl ⟨rfl,rfl⟩ ?_;intro w9 q9 o9 z9))
  exact bodyPost_ret (zak Tryz.results94 _ _ w.heap.size 87 #[.int .i64 0,.int .i64 12] _ rfl q9 Tryz.underlying87 rfl 2 rz87 rfl) rfl ⟨((Off.of hB3 []).trans o9 (by simp;omega)).below (by simp),kT3.fresh o9 (Nat.le_refl _),rfl⟩
 | true=>
  rw [if_pos rfl]
  by_cases h3:c.gs.length = 0
  ·
   have e3:¬ (0:Int) < c.gs.length:=by omega
   rw [if_pos h3]
   by_cases h6:c.rl.length = 6
   ·
    have e6:((c.rl.length:Int) == 6) = true:=by rw [beq_iff_eq];omega
    rw [if_pos h6]
    go_enter Tryz.func94,Tryz.ntmps94
    go_wp2_with fail
    generalize w.alloc (.cells #[.int .i64 0,.int .i64 0] 87) = w0 at *
    refine hho.mono ?_
    rintro e w1 ⟨rfl,b1⟩
    have h1:=h0.later b1
    have q1:=zab b1 q0
    have hB1:=hB0.trans (b1.mono hB0.size)
    have kT1:=kT0.later b1
    have z1:=zah q1
    obtain ⟨ao,cap,rfl⟩:=h1.viewL
    obtain ⟨ag,cg,rfl,gv⟩:=h1.view
    clear gv
    go_wp2_with (first | (refine zad rfl 59 _ _ rfl w1.heap.size (rA r) rfl rfl _ 59 (zac w1 (.cells #[.int .i64 0,.string ⟨#[]⟩,.int .i64 0,.string ⟨#[]⟩,.string ⟨#[]⟩,.string ⟨#[]⟩] 59)) 6 rz59 rfl ⟨rfl,rfl⟩ ?_;intro w3 p3 o3 z3;have b13:=((Off.of (bal (Below.refl w1.heap.size w1) (.cells #[.int .i64 0,.string ⟨#[]⟩,.int .i64 0,.string ⟨#[]⟩,.string ⟨#[]⟩,.string ⟨#[]⟩] 59)) []).trans o3 (by simp)).below (by simp);have q3:=zab b13 q1;have hB3:=hB1.trans (b13.mono hB1.size);have kT3:=kT1.later b13;have h3':=h1.later b13;have d0:=(zaa h3'.hd 0).trans rfl;have d1:=(zaa h3'.hd 1).trans rfl) | (refine zad rfl 87 _ _ rfl w.heap.size #[.int .i64 0,.int .i64 32] rfl rfl _ 87 q3 2 rz87 rfl ⟨rfl,rfl⟩ ?_;intro w9 q9 o9 z9))
    exact bodyPost_ret (zak Tryz.results94 _ _ w.heap.size 87 #[.int .i64 0,.int .i64 32] _ rfl q9 Tryz.underlying87 rfl 2 rz87 rfl) rfl ⟨((Off.of hB3 []).trans o9 (by simp;omega)).below (by simp),kT3.fresh o9 (Nat.le_refl _),rfl⟩
   rw [if_neg h6]
   have e6:((c.rl.length:Int) == 6) = false:=by rw [beq_eq_false_iff_ne];omega
   obtain ⟨i0,hi,hz0,hz1,hz2⟩:=zjv
   go_enter Tryz.func94,Tryz.ntmps94
   go_wp2_with fail
   generalize w.alloc (.cells #[.int .i64 0,.int .i64 0] 87) = w0 at *
   refine hho.mono ?_
   rintro e w1 ⟨rfl,b1⟩
   have h1:=h0.later b1
   have q1:=zab b1 q0
   have hB1:=hB0.trans (b1.mono hB0.size)
   have kT1:=kT0.later b1
   have z1:=zah q1
   obtain ⟨ao,cap,rfl⟩:=h1.viewL
   obtain ⟨ag,cg,rfl,gv⟩:=h1.view
   clear gv
   go_upto_region 6 with (first | (refine zad rfl 59 _ _ rfl w1.heap.size (rA r) rfl rfl _ 59 (zac w1 (.cells #[.int .i64 0,.string ⟨#[]⟩,.int .i64 0,.string ⟨#[]⟩,.string ⟨#[]⟩,.string ⟨#[]⟩] 59)) 6 rz59 rfl ⟨rfl,rfl⟩ ?_;intro w3 p3 o3 z3;have b13:=((Off.of (bal (Below.refl w1.heap.size w1) (.cells #[.int .i64 0,.string ⟨#[]⟩,.int .i64 0,.string ⟨#[]⟩,.string ⟨#[]⟩,.string ⟨#[]⟩] 59)) []).trans o3 (by simp)).below (by simp);have q3:=zab b13 q1;have hB3:=hB1.trans (b13.mono hB1.size);have kT3:=kT1.later b13;have h3':=h1.later b13;have d0:=(zaa h3'.hd 0).trans rfl;have d1:=(zaa h3'.hd 1).trans rfl))
   have h4:=h3'
   have p5:=zab (zag w3) p3
   have q5:=zab (zag w3) q3
   have h5:=h4.later (zag w3)
   have hB5:=hB3.trans ((zag w3).mono hB3.size)
   have kT5:=kT3.later (zag w3)
   have hz4:w1.heap.size < w3.heap.size:=zah p3
   clear p3 q3 h4 hB3 h3'
   have HNB:(Value.slice ao c.rl.length cap).ownBlock ≠ some w1.heap.size:=fun e=>by have:=(zan h1.rl _ e).2;omega
   refine wp_region_noPanic ?_
   refine wp_region_held_drew (S:=fun W=>W.heap[w1.heap.size]? = some (.cells (rA r) 59)) (by kernel_rfl) ?_ (fun _=>?_)
   ·
    exact p5
   generalize w3.drew = wd at *
   refine tk 0 32 (.pointer (some ⟨b,0,none⟩)) rfl (fun W hSw=>by go_simp) p5 ?_
   simp only [Act.put,pB,pC,pD]
   refine tk 1 33 (.pointer (some ⟨b,0,none⟩)) rfl (fun W hSw=>by go_simp) p5 ?_
   simp only [Act.put,pB,pC,pD]
   refine tk 2 34 (.pointer (some ⟨b,0,none⟩)) rfl (fun W hSw=>by go_simp) p5 ?_
   simp only [Act.put,pB,pC,pD]
   refine tk 3 35 (.pointer (some ⟨b,0,none⟩)) rfl (fun W hSw=>by go_simp) p5 ?_
   simp only [Act.put,pB,pC,pD]
   refine tk 5 37 (.agg (rA r)) rfl (fun W hSw=>by exact zar 59 _ rfl w1.heap.size (rA r) 59 rfl W hSw _ Tryz.underlying59 rfl 6 rz59 rfl) p5 ?_
   simp only [Act.put,pB,pC,pD]
   refine wpAnyH_ready (rs:=[4,6]) (by kernel_rfl) (by simp) ?_
   refine AllReadyH.cons rfl (fun K hK=>?_) (AllReadyH.cons rfl (fun K hK=>?_) AllReadyH.nil)
   ·
    have k5:=(zaa h5.hd 0).trans rfl
    go_simp
    refine hK.out _ _ ?_ (fun _=>?_)
    ·
     exact p5
    clear hK K
    refine wpAnyH_ready (rs:=[6]) (by kernel_rfl) (by simp) ?_
    refine aR rfl fun K hK=>?_
    have n6:=zac wd (.cells (rA r) 59)
    have B6:=bal (Below.refl wd.heap.size wd) (.cells (rA r) 59)
    have h6:=h5.later B6
    have p6:=zab B6 p5
    have q6:=zab B6 q5
    have hB6:=hB5.trans (B6.mono hB5.size)
    have kT6:=kT5.later B6
    go_simp
    generalize wd.alloc (.cells (rA r) 59) = w6 at *
    refine hK.out _ _ ?_ (fun _=>?_)
    ·
     exact p6
    clear hK K
    refine wpAnyH_ready (rs:=[7]) (by kernel_rfl) (by simp) ?_
    refine aR rfl fun K hK=>?_
    refine zay _ _ (some 39) 36 rfl rfl (by rfl) wb.heap.size 59 i0 (.agg #[.int .i64 0,tx [],.int .i64 0,tx [],tx [],tx []]) 6 80 Tryz.underlying36 hi hz0 hz1 hz2 rfl (by decide) (.slice ao c.rl.length cap) c.rl.length (cellsR c.rl) rfl h6.rl ⟨wd.heap.size,0,none⟩ 1 1 [.int .i64 r.act,tx r.frm.name,.int .i64 r.frm.kind,tx r.frm.text,tx r.tgt,tx r.txt] rfl rfl ?hnews ?hone ?h63 ?hby ?hbs ?_
    case hnews=>
     intro j u hu
     rw [Addr.add_lit,Nat.zero_add,zaa n6 j]
     simpa using hu
    case hone=>
     intro u hu
     simp only [List.mem_cons,List.not_mem_nil,or_false] at hu
     rcases hu with rfl | rfl | rfl | rfl | rfl | rfl <;> rfl
    case h63=>unfold maxLen;omega
    case hby=>omega
    case hbs=>exact hB6.size
    intro v' w7 own7 hg7 hat7
    have o7:=zas hg7
    have p7:w7.heap[w1.heap.size]? = some (.cells (rA r) 59):=o7.heap p6 (fun hm=>HNB (by simpa using hm))
    have q7:=o7.heap q6 (fun hm=>zap h6.rl q6 (by decide) (by simpa using hm))
    have k7:=o7.heap h6.hd (fun hm=>zap h6.rl h6.hd (by decide) (by simpa using hm))
    have hB7:Below wb.heap.size wb w7:=((Off.of hB6 []).trans o7 (fun y hy=>Or.inr (zan h6.rl y (by simpa using hy)).1)).below (by simp)
    have kT7:=kT6.own h6.rl hg7 (by decide)
    obtain ⟨ao',cap',rfl⟩:=zav own7
    refine hK.out _ _ ?_ (fun _=>?_)
    ·
     exact p7
    clear hK K
    refine tk 8 40 (.pointer (some ⟨b,0,none⟩)) rfl (fun W hSw=>by go_simp) p7 ?_
    simp only [Act.put,pB,pC,pD]
    refine tk 9 41 (.pointer (some ⟨b,0,none⟩)) rfl (fun W hSw=>by go_simp) p7 ?_
    simp only [Act.put,pB,pC,pD]
    refine wpAnyH_ready (rs:=[10]) (by kernel_rfl) (by simp) ?_
    refine aR rfl fun K hK=>?_
    refine zbv 36 _ _ none rfl rfl (by rfl) b 0 (.slice ao' (c.rl.length + 1) cap') rfl rfl #[.slice ao c.rl.length cap,.slice ag c.gs.length cg] 84 k7 (by simp) rz36 rfl #[.slice ao' (c.rl.length + 1) cap',.slice ag c.gs.length cg] rfl ?_
    intro w8 k8 o8 z8
    have h8:=h6.addL r own7 hg7 hat7 k8 o8
    have p8:=o8.heap p7 (by simp;omega)
    have q8:=o8.heap q7 (by simp;omega)
    have hB8:=((Off.of hB7 []).trans o8 (by have:=h6.bb;simp;omega)).below (by simp)
    have kT8:=kT7.st k7 (by decide) o8
    refine hK.out _ _ ?_ (fun _=>?_)
    ·
     exact p8
    clear hK K
    refine wpAnyH_done (by kernel_rfl) ?_ _
    refine NoPanic.normal ?_
    go_wp2_with (refine zad rfl 87 _ _ rfl w.heap.size #[.int .i64 0,.int .i64 0] rfl rfl _ 87 q8 2 rz87 rfl ⟨rfl,rfl⟩ ?_;intro w9 q9 o9 z9)
    exact bodyPost_ret (zak Tryz.results94 _ _ w.heap.size 87 #[.int .i64 0,.int .i64 0] _ rfl q9 Tryz.underlying87 rfl 2 rz87 rfl) rfl ⟨((Off.of hB8 []).trans o9 (by simp;omega)).below (by simp),kT8.fresh o9 (Nat.le_refl _),rfl,F,_,_,vs,fun _ hx=>Or.inl hx,h8.off9 o9 ⟨by omega,hnF⟩ q8⟩
   have n6:=zac wd (.cells (rA r) 59)
   have B6:=bal (Below.refl wd.heap.size wd) (.cells (rA r) 59)
   have h6:=h5.later B6
   have p6:=zab B6 p5
   have q6:=zab B6 q5
   have hB6:=hB5.trans (B6.mono hB5.size)
   have kT6:=kT5.later B6
   go_simp
   generalize wd.alloc (.cells (rA r) 59) = w6 at *
   refine hK.out _ _ ?_ (fun _=>?_)
   ·
    exact p6
   clear hK K
   refine wpAnyH_ready (rs:=[4]) (by kernel_rfl) (by simp) ?_
   refine aR rfl fun K hK=>?_
   have k5:=(zaa h6.hd 0).trans rfl
   go_simp
   refine hK.out _ _ ?_ (fun _=>?_)
   ·
    exact p6
   clear hK K
   refine wpAnyH_ready (rs:=[7]) (by kernel_rfl) (by simp) ?_
   refine aR rfl fun K hK=>?_
   refine zay _ _ (some 39) 36 rfl rfl (by rfl) wb.heap.size 59 i0 (.agg #[.int .i64 0,tx [],.int .i64 0,tx [],tx [],tx []]) 6 80 Tryz.underlying36 hi hz0 hz1 hz2 rfl (by decide) (.slice ao c.rl.length cap) c.rl.length (cellsR c.rl) rfl h6.rl ⟨wd.heap.size,0,none⟩ 1 1 [.int .i64 r.act,tx r.frm.name,.int .i64 r.frm.kind,tx r.frm.text,tx r.tgt,tx r.txt] rfl rfl ?hnews ?hone ?h63 ?hby ?hbs ?_
   case hnews=>
    intro j u hu
    rw [Addr.add_lit,Nat.zero_add,zaa n6 j]
    simpa using hu
   case hone=>
    intro u hu
    simp only [List.mem_cons,List.not_mem_nil,or_false] at hu
    rcases hu with rfl | rfl | rfl | rfl | rfl | rfl <;> rfl
   case h63=>unfold maxLen;omega
   case hby=>omega
   case hbs=>exact hB6.size
   intro v' w7 own7 hg7 hat7
   have o7:=zas hg7
   have p7:w7.heap[w1.heap.size]? = some (.cells (rA r) 59):=o7.heap p6 (fun hm=>HNB (by simpa using hm))
   have q7:=o7.heap q6 (fun hm=>zap h6.rl q6 (by decide) (by simpa using hm))
   have k7:=o7.heap h6.hd (fun hm=>zap h6.rl h6.hd (by decide) (by simpa using hm))
   have hB7:Below wb.heap.size wb w7:=((Off.of hB6 []).trans o7 (fun y hy=>Or.inr (zan h6.rl y (by simpa using hy)).1)).below (by simp)
   have kT7:=kT6.own h6.rl hg7 (by decide)
   obtain ⟨ao',cap',rfl⟩:=zav own7
   refine hK.out _ _ ?_ (fun _=>?_)
   ·
    exact p7
   clear hK K
   refine tk 8 40 (.pointer (some ⟨b,0,none⟩)) rfl (fun W hSw=>by go_simp) p7 ?_
   simp only [Act.put,pB,pC,pD]
   refine tk 9 41 (.pointer (some ⟨b,0,none⟩)) rfl (fun W hSw=>by go_simp) p7 ?_
   simp only [Act.put,pB,pC,pD]
   refine wpAnyH_ready (rs:=[10]) (by kernel_rfl) (by simp) ?_
   refine aR rfl fun K hK=>?_
   refine zbv 36 _ _ none rfl rfl (by rfl) b 0 (.slice ao' (c.rl.length + 1) cap') rfl rfl #[.slice ao c.rl.length cap,.slice ag c.gs.length cg] 84 k7 (by simp) rz36 rfl #[.slice ao' (c.rl.length + 1) cap',.slice ag c.gs.length cg] rfl ?_
   intro w8 k8 o8 z8
   have h8:=h6.addL r own7 hg7 hat7 k8 o8
   have p8:=o8.heap p7 (by simp;omega)
   have q8:=o8.heap q7 (by simp;omega)
   have hB8:=((Off.of hB7 []).trans o8 (by have:=h6.bb;simp;omega)).below (by simp)
   have kT8:=kT7.st k7 (by decide) o8
   refine hK.out _ _ ?_ (fun _=>?_)
   ·
    exact p8
   clear hK K
   refine wpAnyH_done (by kernel_rfl) ?_ _
   refine NoPanic.normal ?_
   go_wp2_with (refine zad rfl 87 _ _ rfl w.heap.size #[.int .i64 0,.int .i64 0] rfl rfl _ 87 q8 2 rz87 rfl ⟨rfl,rfl⟩ ?_;intro w9 q9 o9 z9)
   exact bodyPost_ret (zak Tryz.results94 _ _ w.heap.size 87 #[.int .i64 0,.int .i64 0] _ rfl q9 Tryz.underlying87 rfl 2 rz87 rfl) rfl ⟨((Off.of hB8 []).trans o9 (by simp;omega)).below (by simp),kT8.fresh o9 (Nat.le_refl _),rfl,F,_,_,vs,fun _ hx=>Or.inl hx,h8.off9 o9 ⟨by omega,hnF⟩ q8⟩
  have e3:(0:Int) < c.gs.length:=by omega
  rw [if_neg h3]
  go_enter Tryz.func94,Tryz.ntmps94
  go_wp2_with fail
  generalize w.alloc (.cells #[.int .i64 0,.int .i64 0] 87) = w0 at *
  refine hho.mono ?_
  rintro e w1 ⟨rfl,b1⟩
  have h1:=h0.later b1
  have q1:=zab b1 q0
  have hB1:=hB0.trans (b1.mono hB0.size)
  have kT1:=kT0.later b1
  have z1:=zah q1
  obtain ⟨ao,cap,rfl⟩:=h1.viewL
  obtain ⟨ag,cg,rfl,gv⟩:=h1.view
  clear gv
  go_wp2_with (first | (refine zad rfl 59 _ _ rfl w1.heap.size (rA r) rfl rfl _ 59 (zac w1 (.cells #[.int .i64 0,.string ⟨#[]⟩,.int .i64 0,.string ⟨#[]⟩,.string ⟨#[]⟩,.string ⟨#[]⟩] 59)) 6 rz59 rfl ⟨rfl,rfl⟩ ?_;intro w3 p3 o3 z3;have b13:=((Off.of (bal (Below.refl w1.heap.size w1) (.cells #[.int .i64 0,.string ⟨#[]⟩,.int .i64 0,.string ⟨#[]⟩,.string ⟨#[]⟩,.string ⟨#[]⟩] 59)) []).trans o3 (by simp)).below (by simp);have q3:=zab b13 q1;have hB3:=hB1.trans (b13.mono hB1.size);have kT3:=kT1.later b13;have h3':=h1.later b13;have d0:=(zaa h3'.hd 0).trans rfl;have d1:=(zaa h3'.hd 1).trans rfl) | (refine zad rfl 87 _ _ rfl w.heap.size #[.int .i64 0,.int .i64 12] rfl rfl _ 87 q3 2 rz87 rfl ⟨rfl,rfl⟩ ?_;intro w9 q9 o9 z9))
  exact bodyPost_ret (zak Tryz.results94 _ _ w.heap.size 87 #[.int .i64 0,.int .i64 12] _ rfl q9 Tryz.underlying87 rfl 2 rz87 rfl) rfl ⟨((Off.of hB3 []).trans o9 (by simp;omega)).below (by simp),kT3.fresh o9 (Nat.le_refl _),rfl⟩
end Go.Proofs.YtjlaihekocjggaaGreatDoor
