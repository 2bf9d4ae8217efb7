/- Texts that the others lean on. -/
import Derived.Test.YtjlaihekocjggaaGreatDoorKRRec2
set_option maxHeartbeats 16000000
namespace Go.Proofs.YtjlaihekocjggaaGreatDoor
open Go.RowKit
theorem Rdg.last {base:Nat} {F:Nat → Prop} {w:World} {b:Nat} {rl:List Rl} {gs0:List Gr} {g:Gr} {vr vg:Value} {vs:List Value} (h:Rdg base F w b ⟨rl,gs0 ++ [g]⟩ vr vg vs) :
  ∃ gb cap cur vs0 au cu,vg = .slice (some ⟨gb,0,none⟩) (gs0.length + 1) cap ∧ w.heap[gb]? = some (.cells cur 138) ∧ gs0.length * 3 + 2 < cur.size ∧ vs = vs0 ++ [.slice au g.rs.length cu] ∧ w.cell? ⟨gb,gs0.length * 3 + 2,none⟩ = some (.slice au g.rs.length cu):=by
 rcases h.gs.2 with ⟨e,h0⟩ | ⟨gb,cap,cur,e,hb0,hc,hn,hm,hs,ht⟩
 ·
  simp at h0
 have hl:vs.length = gs0.length + 1:=by have:=h.len;simpa using this
 obtain ⟨u,hu,hr⟩:=h.rs gs0.length g (by simp)
 obtain ⟨cs,ho⟩:=hr.own
 obtain ⟨au,cu,rfl⟩:=zav ho
 have hv:vs = vs.dropLast ++ [.slice au g.rs.length cu]:=by
  have hne:vs ≠ []:=fun e=>by rw [e] at hl;simp at hl
  have e1:=(List.dropLast_concat_getLast hne).symm
  have e2:vs.getLast hne = .slice au g.rs.length cu:=by
   rw [List.getLast_eq_getElem]
   have:vs.length - 1 = gs0.length:=by omega
   simp only [this]
   exact (List.getElem?_eq_some_iff.1 hu).2
  rw [e2] at e1
  exact e1
 have hn':gs0.length + 1 ≤ cap:=by simpa using hn
 have hsz:gs0.length * 3 + 2 < cur.size:=by rw [hs];omega
 have ht:cur.toList.take ((gs0 ++ [g]).length * 3) = cellsG (gs0 ++ [g]) vs:=ht
 obtain ⟨_,_,k2⟩:=zem (gs0 ++ [g]) vs gs0.length g _ (by simp) hu
 refine ⟨gb,cap,cur,_,au,cu,by rw [e];simp,hc,hsz,hv,?_⟩
 rw [zaa hc,← k2,← ht,List.getElem?_take_of_lt (by simp;omega)]
 simp
theorem st_of {w:World} {base lo:Nat} {v:Value} {l:List Pr} (h:Lb.Own w base v l) (hb:lo ≤ base):SlP (fun x=>lo ≤ x ∧ x < w.heap.size) w v l.length (cellsP l):=by
 have h1:=SlP.bound (Sl.owns h h.1) (fun hp=>by rw [h.1];omega)
 exact h1.mono (fun x hx=>⟨by omega,hx.2⟩)
theorem row15 {cs:Array Value} (h:cs.size = 15):∃ c0 c1 c2 c3 c4 c5 c6 c7 c8 c9 c10 c11 c12 c13 c14,cs = #[c0,c1,c2,c3,c4,c5,c6,c7,c8,c9,c10,c11,c12,c13,c14]:=
 ⟨cs[0],cs[1],cs[2],cs[3],cs[4],cs[5],cs[6],cs[7],cs[8],cs[9],cs[10],cs[11],cs[12],cs[13],cs[14],by
  apply Array.ext
  ·
   exact h
  intro i h1 h2
  match i,h1,h2 with
  | 0,_,_=>rfl | 1,_,_=>rfl | 2,_,_=>rfl | 3,_,_=>rfl | 4,_,_=>rfl | 5,_,_=>rfl | 6,_,_=>rfl | 7,_,_=>rfl | 8,_,_=>rfl | 9,_,_=>rfl | 10,_,_=>rfl | 11,_,_=>rfl | 12,_,_=>rfl | 13,_,_=>rfl | 14,_,_=>rfl
  | i + 15,h1,_=>omega⟩
theorem run_mkR (w:World) (cs:Array Value) (h:cs.size = 15):(Instr.buildSlice 60 1 #[(0,.agg cs)]).run Tryz.prog w = .ok (.slice (some ⟨w.heap.size,0,none⟩) 1 1) (w.alloc (.cells cs 65)):=by
 obtain ⟨c0,c1,c2,c3,c4,c5,c6,c7,c8,c9,c10,c11,c12,c13,c14,rfl⟩:=row15 h
 kernel_rfl
theorem zhv {ops:Array Oper} {o:Oper} {a:Act} {W:World} {K:Act → World → Prop} {Q:Exit → Act → World → Prop} {E:Prop} (x:Operand) (d:Option Tmp) (ho:o.op = .buildSlice 60 1 #[(0,x)]) (hd:o.dst = d) (hw:Region.wanted o (yielded ops a.tmps) = true) (cs:Array Value) (hx:a.eval x = .agg cs) (hn:cs.size = 15)
  (h:∀ W',W'.heap[W.heap.size]? = some (.cells cs 65) → Below W.heap.size W W' → W.heap.size + 1 ≤ W'.heap.size → K (a.put d (.slice (some ⟨W.heap.size,0,none⟩) 1 1)) W'):if Region.wanted o (yielded ops a.tmps) = true then Oper.wp Tryz.prog o a W K Q else E:=by
 subst hd
 rw [if_pos hw]
 have k:=h _ (zac W _) (bal (Below.refl _ _) _) (zaf _ _)
 have e:(Array.map (fun y:Nat × Operand=>(y.1,a.eval y.2)) #[(0,x)]) = #[(0,.agg cs)]:=by simp [hx]
 unfold Oper.wp execOp
 simp only [ho,e,Sem.run_bind,Result.andThen_ok,run_mkR W cs hn]
 exact k
set_option maxRecDepth 20000 in
theorem takeR_any {wb w:World} {F:Nat → Prop} {b:Nat} {rl:List Rl} {gs:List Gr} {vr vg:Value} {vs:List Value} (h:Rdg wb.heap.size F w b ⟨rl,gs⟩ vr vg vs) (he:Ev wb) (het:Et wb) (hB:Below wb.heap.size wb w) (hc3:gs.length ≤ 3) (hc8:∀ g ∈ gs,g.rs.length ≤ 8) (l:Str) (hs:l.length ≤ 90000) :
  Calls Tryz.prog 93 #[.pointer (some ⟨b,0,none⟩),tx l] w (TkOut wb w F b (stR ⟨rl,gs⟩ l)):=by
 have hB0:Below wb.heap.size wb (w.alloc (.cells #[.int .i64 0,.int .i64 0] 87)):=bal hB (.cells #[.int .i64 0,.int .i64 0] 87)
 have kT0:Kt w (w.alloc (.cells #[.int .i64 0,.int .i64 0] 87)):=(Kt.refl w).later (bal (Below.refl w.heap.size w) (.cells #[.int .i64 0,.int .i64 0] 87))
 have h0:=h.later (bal (Below.refl w.heap.size w) (.cells #[.int .i64 0,.int .i64 0] 87))
 have q0:=zac w (.cells #[.int .i64 0,.int .i64 0] 87)
 have hzz:=h.lt
 have hzb:=hB.size
 have hro:=zjf l (w.alloc (.cells #[.int .i64 0,.int .i64 0] 87)) hs (he.later hB0).mx
 have hnF:¬ F w.heap.size:=fun hq=>by have:=(h.fr _ hq).1;omega
 have hz0:(w.alloc (.cells #[.int .i64 0,.int .i64 0] 87)).heap.size = w.heap.size + 1:=by simp
 unfold stR
 clear h hB
 generalize hok:rcOk l = o at *
 cases o with
 | false=>
  rw [if_neg (by simp)]
  go_enter Tryz.func93,Tryz.ntmps93
  go_wp2_with fail
  generalize w.alloc (.cells #[.int .i64 0,.int .i64 0] 87) = w0 at *
  refine hro.mono ?_
  rintro e w1 ⟨v,t,rfl,_,b1⟩
  have q1:=zab b1 q0
  have hB1:=hB0.trans (b1.mono hB0.size)
  have kT1:=kT0.later b1
  go_wp2_with (refine zad rfl 87 _ _ rfl w.heap.size #[.int .i64 0,.int .i64 12] rfl rfl _ 87 q1 2 rz87 rfl ⟨rfl,rfl⟩ ?_;intro w9 q9 o9 z9)
  exact bodyPost_ret (zak Tryz.results93 _ _ w.heap.size 87 #[.int .i64 0,.int .i64 12] _ rfl q9 Tryz.underlying87 rfl 2 rz87 rfl) rfl ⟨((Off.of hB1 []).trans o9 (by simp;omega)).below (by simp),kT1.fresh o9 (Nat.le_refl _),rfl⟩
 | true=>
  rw [if_pos rfl]
  clear hok
  have hro2:Calls Tryz.prog 169 #[tx l] (w.alloc (.cells #[.int .i64 0,.int .i64 0] 87)) fun e w'=>∃ ao cap,e = .returned (.tuple #[.slice ao (parseL (rcS l)).length cap,tx (rcX l),.bool true]) ∧ Lb.Own w' (w.heap.size + 1) (.slice ao (parseL (rcS l)).length cap) (parseL (rcS l)) ∧ Lb.Ps w' ao (parseL (rcS l)).length (parseL (rcS l)) ∧ Below (w.heap.size + 1) (w.alloc (.cells #[.int .i64 0,.int .i64 0] 87)) w':=by
   refine hro.mono ?_
   rintro e w' ⟨v,t,rfl,hv,b1⟩
   obtain ⟨rfl,own⟩:=hv rfl
   obtain ⟨ao,cap,rfl,ps⟩:=own.fitN
   rw [hz0] at own b1
   exact ⟨ao,cap,rfl,own,ps,b1⟩
  clear hro
  rcases List.eq_nil_or_concat gs with rfl | ⟨gs0,g,hgs⟩
  ·
   dsimp only [List.getLast?_nil]
   go_enter Tryz.func93,Tryz.ntmps93
   go_wp2_with fail
   generalize w.alloc (.cells #[.int .i64 0,.int .i64 0] 87) = w0 at *
   refine hro2.mono ?_
   rintro e w1 ⟨ao,cap,rfl,own,ps,b1⟩
   rw [← hz0] at b1
   have q1:=zab b1 q0
   have hB1:=hB0.trans (b1.mono hB0.size)
   have kT1:=kT0.later b1
   have h1:=h0.later b1
   obtain ⟨ag,cg,rfl,gv⟩:=h1.view
   have d1:=(zaa h1.hd 1).trans rfl
   clear gv
   dsimp only [List.length_nil] at d1
   go_wp2_with (refine zad rfl 87 _ _ rfl w.heap.size #[.int .i64 0,.int .i64 12] rfl rfl _ 87 q1 2 rz87 rfl ⟨rfl,rfl⟩ ?_;intro w9 q9 o9 z9)
   exact bodyPost_ret (zak Tryz.results93 _ _ w.heap.size 87 #[.int .i64 0,.int .i64 12] _ rfl q9 Tryz.underlying87 rfl 2 rz87 rfl) rfl ⟨((Off.of hB1 []).trans o9 (by simp;omega)).below (by simp),kT1.fresh o9 (Nat.le_refl _),rfl⟩
  try rw [List.concat_eq_append] at hgs
  subst hgs
  dsimp only
  rw [List.getLast?_concat,List.dropLast_concat]
  dsimp only
  have hg8:=hc8 g (by simp)
  have hrl:(rcX l).length ≤ l.length:=by
   have:(rcR l).length ≤ l.length:=Lib.trimPrefix_le l rW
   unfold rcX
   simp
   omega
  have hex:=fun W h1 h2=>zfl (rcX l) W (by omega) h1 h2
  have hpl:=zhc (s:=rcS l) (by have:(rcR l).length ≤ l.length:=Lib.trimPrefix_le l rW;unfold rcS;simp;omega)
  obtain ⟨gb,gcap,cur0,vs0,au,cu,hvg,hgh,hgsz,hvs,hgc⟩:=h0.last
  subst hvg hvs
  obtain ⟨m,HM⟩:∃ m,Hid (gs0.length = m):=⟨_,(rfl:gs0.length = gs0.length)⟩
  rw [HM.out] at hgsz hgc
  have h0':Rdg wb.heap.size F (w.alloc (.cells #[.int .i64 0,.int .i64 0] 87)) b ⟨rl,gs0 ++ [g]⟩ vr (.slice (some ⟨gb,0,none⟩) (m + 1) gcap) (vs0 ++ [.slice au g.rs.length cu]):=by rw [← HM.out];exact h0
  have hm3:m ≤ 2:=by have:=HM.out;simp at hc3;omega
  clear h0 hc8 hc3
  by_cases h8:g.rs.length = 8
  ·
   have e8:((g.rs.length:Int) == 8) = true:=by rw [beq_iff_eq];omega
   rw [if_pos h8]
   go_enter Tryz.func93,Tryz.ntmps93
   go_wp2_with fail
   generalize w.alloc (.cells #[.int .i64 0,.int .i64 0] 87) = w0 at *
   refine hro2.mono ?_
   rintro e w1 ⟨ao,cap,rfl,own,ps,b1⟩
   rw [← hz0] at b1
   have q1:=zab b1 q0
   have hB1:=hB0.trans (b1.mono hB0.size)
   have kT1:=kT0.later b1
   have h1:=h0'.later b1
   have hgh1:=zab b1 hgh
   have d1:=(zaa h1.hd 1).trans rfl
   have g1:w1.cell? ⟨gb,m * 3 + 2,none⟩ = some (.slice au g.rs.length cu):=(b1.cell (p:=⟨gb,m * 3 + 2,none⟩) (zah hgh)).trans hgc
   clear hro2 hgc hgh h0'
   go_upto_region 4 with fail
   have B4:=zag w1
   have hB2:=hB1.trans (B4.mono hB1.size)
   have kT2:=kT1.later B4
   have hm1:IntKind.i64.wrap (m:Int) = (m:Int):=by rw [IntKind.wrap_i64];omega
   have hm2:((m:Int) + 1 - 1) = (m:Int):=by omega
   have d1':(w1.drew).cell? ⟨b,1,none⟩ = some (.slice (some ⟨gb,0,none⟩) (m + 1) gcap):=d1
   refine wp_region_noPanic ?_
   refine wp_region_held_drew (S:=fun W=>W.cell? ⟨b,1,none⟩ = some (.slice (some ⟨gb,0,none⟩) (m + 1) gcap)) (by kernel_rfl) ?_ (fun _=>?_)
   ·
    exact d1'
   refine tk 0 29 (.pointer (some ⟨b,0,none⟩)) rfl (fun W hSw=>by go_simp) d1' ?_
   simp only [Act.put,pB,pC,pD]
   refine tk 1 30 (.pointer (some ⟨b,0,none⟩)) rfl (fun W hSw=>by go_simp) d1' ?_
   simp only [Act.put,pB,pC,pD]
   refine tk 2 31 (.pointer (some ⟨b,1,none⟩)) rfl (fun W hSw=>by go_simp) d1' ?_
   simp only [Act.put,pB,pC,pD]
   refine tk 3 32 (.slice (some ⟨gb,0,none⟩) (m + 1) gcap) rfl (fun W hSw=>by (have c:=hSw;go_simp)) d1' ?_
   simp only [Act.put,pB,pC,pD]
   refine tk 4 33 (.pointer (some ⟨b,0,none⟩)) rfl (fun W hSw=>by go_simp) d1' ?_
   simp only [Act.put,pB,pC,pD]
   refine tk 5 34 (.pointer (some ⟨b,0,none⟩)) rfl (fun W hSw=>by go_simp) d1' ?_
   simp only [Act.put,pB,pC,pD]
   refine tk 6 35 (.pointer (some ⟨b,1,none⟩)) rfl (fun W hSw=>by go_simp) d1' ?_
   simp only [Act.put,pB,pC,pD]
   refine tk 7 36 (.slice (some ⟨gb,0,none⟩) (m + 1) gcap) rfl (fun W hSw=>by (have c:=hSw;go_simp)) d1' ?_
   simp only [Act.put,pB,pC,pD]
   refine tk 8 37 (.int .i64 ((m:Int) + 1)) rfl (fun W hSw=>by go_simp) d1' ?_
   simp only [Act.put,pB,pC,pD]
   refine tk 9 38 (.int .i64 (m:Int)) rfl (fun W hSw=>by go_simp) d1' ?_
   simp only [Act.put,pB,pC,pD]
   refine tk 10 39 (.pointer (some ⟨gb,m * 3,none⟩)) rfl (fun W hSw=>by (go_simp;intro hq;omega)) d1' ?_
   simp only [Act.put,pB,pC,pD]
   refine tk 11 8 (.pointer (some ⟨gb,m * 3,none⟩)) rfl (fun W hSw=>by go_simp) d1' ?_
   simp only [Act.put,pB,pC,pD]
   refine wpAnyH_done (by kernel_rfl) ?_ _
   refine NoPanic.normal ?_
   have g1:w1.drew.cell? ⟨gb,m * 3 + 2,none⟩ = some (.slice au g.rs.length cu):=g1
   have q1:w1.drew.heap[w.heap.size]? = some _:=q1
   have h1:=h1.later B4
   have hgh1:w1.drew.heap[gb]? = some _:=hgh1
   have own:=own.later B4
   have ps:=ps.later B4
   have hB1:=hB2
   have kT1:=kT2
   have zd:w1.drew.heap.size = w1.heap.size:=rfl
   clear d1 d1' hB2
   generalize w1.drew = w1' at *
   go_wp2_with (refine zad rfl 87 _ _ rfl w.heap.size #[.int .i64 0,.int .i64 32] rfl rfl _ 87 q1 2 rz87 rfl ⟨rfl,rfl⟩ ?_;intro w9 q9 o9 z9)
   exact bodyPost_ret (zak Tryz.results93 _ _ w.heap.size 87 #[.int .i64 0,.int .i64 32] _ rfl q9 Tryz.underlying87 rfl 2 rz87 rfl) rfl ⟨((Off.of hB1 []).trans o9 (by simp;omega)).below (by simp),kT1.fresh o9 (Nat.le_refl _),rfl⟩
  have e8:((g.rs.length:Int) == 8) = false:=by rw [beq_eq_false_iff_ne];omega
  rw [if_neg h8]
  by_cases hy:(exW (rcX l)).2 = 0
  ·
   rw [if_pos hy]
   have hy1:((exW (rcX l)).2 != 0) = false:=by rw [bne_eq_false_iff_eq];exact hy
   have hy2:((exW (rcX l)).2 == 0) = true:=beq_iff_eq.2 hy
   obtain ⟨i0,hi,hiz0,hiz1,hiz2⟩:=zjt
   go_enter Tryz.func93,Tryz.ntmps93
   go_wp2_with fail
   generalize w.alloc (.cells #[.int .i64 0,.int .i64 0] 87) = w0 at *
   refine hro2.mono ?_
   rintro e w1 ⟨ao,cap,rfl,own,ps,b1⟩
   rw [← hz0] at b1
   have q1:=zab b1 q0
   have hB1:=hB0.trans (b1.mono hB0.size)
   have kT1:=kT0.later b1
   have h1:=h0'.later b1
   have hgh1:=zab b1 hgh
   have d1:=(zaa h1.hd 1).trans rfl
   have g1:w1.cell? ⟨gb,m * 3 + 2,none⟩ = some (.slice au g.rs.length cu):=(b1.cell (p:=⟨gb,m * 3 + 2,none⟩) (zah hgh)).trans hgc
   clear hro2 hgc hgh h0'
   go_upto_region 4 with fail
   have B4:=zag w1
   have hB2:=hB1.trans (B4.mono hB1.size)
   have kT2:=kT1.later B4
   have hm1:IntKind.i64.wrap (m:Int) = (m:Int):=by rw [IntKind.wrap_i64];omega
   have hm2:((m:Int) + 1 - 1) = (m:Int):=by omega
   have d1':(w1.drew).cell? ⟨b,1,none⟩ = some (.slice (some ⟨gb,0,none⟩) (m + 1) gcap):=d1
   refine wp_region_noPanic ?_
   refine wp_region_held_drew (S:=fun W=>W.cell? ⟨b,1,none⟩ = some (.slice (some ⟨gb,0,none⟩) (m + 1) gcap)) (by kernel_rfl) ?_ (fun _=>?_)
   ·
    exact d1'
   refine tk 0 29 (.pointer (some ⟨b,0,none⟩)) rfl (fun W hSw=>by go_simp) d1' ?_
   simp only [Act.put,pB,pC,pD]
   refine tk 1 30 (.pointer (some ⟨b,0,none⟩)) rfl (fun W hSw=>by go_simp) d1' ?_
   simp only [Act.put,pB,pC,pD]
   refine tk 2 31 (.pointer (some ⟨b,1,none⟩)) rfl (fun W hSw=>by go_simp) d1' ?_
   simp only [Act.put,pB,pC,pD]
   refine tk 3 32 (.slice (some ⟨gb,0,none⟩) (m + 1) gcap) rfl (fun W hSw=>by (have c:=hSw;go_simp)) d1' ?_
   simp only [Act.put,pB,pC,pD]
   refine tk 4 33 (.pointer (some ⟨b,0,none⟩)) rfl (fun W hSw=>by go_simp) d1' ?_
   simp only [Act.put,pB,pC,pD]
   refine tk 5 34 (.pointer (some ⟨b,0,none⟩)) rfl (fun W hSw=>by go_simp) d1' ?_
   simp only [Act.put,pB,pC,pD]
   refine tk 6 35 (.pointer (some ⟨b,1,none⟩)) rfl (fun W hSw=>by go_simp) d1' ?_
   simp only [Act.put,pB,pC,pD]
   refine tk 7 36 (.slice (some ⟨gb,0,none⟩) (m + 1) gcap) rfl (fun W hSw=>by (have c:=hSw;go_simp)) d1' ?_
   simp only [Act.put,pB,pC,pD]
   refine tk 8 37 (.int .i64 ((m:Int) + 1)) rfl (fun W hSw=>by go_simp) d1' ?_
   simp only [Act.put,pB,pC,pD]
   refine tk 9 38 (.int .i64 (m:Int)) rfl (fun W hSw=>by go_simp) d1' ?_
   simp only [Act.put,pB,pC,pD]
   refine tk 10 39 (.pointer (some ⟨gb,m * 3,none⟩)) rfl (fun W hSw=>by (go_simp;intro hq;omega)) d1' ?_
   simp only [Act.put,pB,pC,pD]
   refine tk 11 8 (.pointer (some ⟨gb,m * 3,none⟩)) rfl (fun W hSw=>by go_simp) d1' ?_
   simp only [Act.put,pB,pC,pD]
   refine wpAnyH_done (by kernel_rfl) ?_ _
   refine NoPanic.normal ?_
   have g1:w1.drew.cell? ⟨gb,m * 3 + 2,none⟩ = some (.slice au g.rs.length cu):=g1
   have q1:w1.drew.heap[w.heap.size]? = some _:=q1
   have h1:=h1.later B4
   have hgh1:w1.drew.heap[gb]? = some _:=hgh1
   have own:=own.later B4
   have ps:=ps.later B4
   have hB1:=hB2
   have kT1:=kT2
   have zd:w1.drew.heap.size = w1.heap.size:=rfl
   clear d1 d1' hB2
   generalize w1.drew = w1' at *
   go_wp2_with fail
   have e1:=he.later hB1
   have t1:=het.later hB1
   refine (hex _ e1 t1).mono ?_
   rintro e w3 ⟨cs,rfl,tr,b3⟩
   have row:=tr.row
   have q3:=zab b3 q1
   have h3:=h1.later b3
   have hB3:=hB1.trans (b3.mono hB1.size)
   have kT3:=kT1.later b3
   have own3:=own.later b3
   have ps3:=ps.later b3
   have qn:=zac w3 (.cells (exA 0 0 false 0 [] nl 0 false false false false nl nl) 28)
   go_upto_region 10 with (refine zad rfl 28 _ _ rfl w3.heap.size cs rfl rfl _ 28 qn 13 zae rfl row ?_;intro w4 p4 o4 z4;have b34:=((Off.of (bal (Below.refl w3.heap.size w3) (.cells (exA 0 0 false 0 [] nl 0 false false false false nl nl) 28)) []).trans o4 (by simp)).below (by simp);have q4:=zab b34 q3)
   have hB4:=hB3.trans (b34.mono hB3.size)
   have kT4:=kT3.later b34
   have h4:=h3.later b34
   have tr4:=tr.later b34
   have ps4:=ps3.later b34
   have B5:=zag w4
   have p5:=zab B5 p4
   have q5:=zab B5 q4
   have h5:=h4.later B5
   have tr5:=tr4.later B5
   have ps5:=ps4.later B5
   have hB5:=hB4.trans (B5.mono hB4.size)
   have kT5:=kT4.later B5
   have hlo:w1'.heap.size ≤ w4.heap.size:=Nat.le_trans b3.size b34.size
   have hlo2:w1'.heap.size ≤ w4.drew.heap.size:=hlo
   have hlo3:=b3.size
   have hb1:=h1.lt
   have hgb1:gb < w1'.heap.size:=zah hgh1
   have hp4:=zah p4
   have hub:∀ x,(Value.slice au g.rs.length cu).ownBlock = some x → x < w1'.heap.size:=fun x hx=>by
    obtain ⟨n,cs',ho⟩:=h1.own (i:=vs0.length) (v:=.slice au g.rs.length cu) (by simp)
    exact (zan ho x hx).2
   have hall:∀ v ∈ vs0 ++ [Value.slice au g.rs.length cu],∀ x,v.ownBlock = some x → x < w1'.heap.size:=fun v hv x hx=>by
    obtain ⟨i,hi'⟩:=List.getElem?_of_mem hv
    obtain ⟨n,cs',ho⟩:=h1.own hi'
    exact (zan ho x hx).2
   have hvr:∀ x,vr.ownBlock = some x → x < w1'.heap.size:=fun x hx=>(zan h1.rl x hx).2
   have hgh5:=zab (Below.chain (Below.chain b3 b34) B5) hgh1
   have g5:w4.drew.cell? ⟨gb,m * 3 + 2,none⟩ = some (.slice au g.rs.length cu):=((Below.chain (Below.chain b3 b34) B5).cell (p:=⟨gb,m * 3 + 2,none⟩) hgb1).trans g1
   have hru:=fun W h1 h2=>zdk (P:=fun x=>w1'.heap.size ≤ x) ao _ cap (parseL (rcS l)) (psX (rcX l)) cs W hpl h1 h2
   clear h4 tr4 ps4 p4 q4 hB4 h3 tr ps3 hB3 q3 own own3 ps
   refine wp_region_noPanic ?_
   refine wp_region_held_drew (S:=fun W=>W.heap[w3.heap.size]? = some (.cells cs 28)) (by kernel_rfl) ?_ (fun _=>?_)
   ·
    exact p5
   generalize w4.drew = wd at *
   refine tk 0 64 (.pointer (some ⟨gb,m * 3,none⟩)) rfl (fun W hSw=>by go_simp) p5 ?_
   simp only [Act.put,pB,pC,pD]
   refine tk 1 65 (.pointer (some ⟨gb,m * 3,none⟩)) rfl (fun W hSw=>by go_simp) p5 ?_
   simp only [Act.put,pB,pC,pD]
   refine tk 2 66 (.pointer (some ⟨gb,m * 3,none⟩)) rfl (fun W hSw=>by go_simp) p5 ?_
   simp only [Act.put,pB,pC,pD]
   refine tk 3 67 (.pointer (some ⟨gb,m * 3 + 2,none⟩)) rfl (fun W hSw=>by go_simp) p5 ?_
   simp only [Act.put,pB,pC,pD]
   refine tk 5 69 (.slice ao (parseL (rcS l)).length cap) rfl (fun W hSw=>by go_simp) p5 ?_
   simp only [Act.put,pB,pC,pD]
   refine tk 6 70 (.agg cs) rfl (fun W hSw=>by exact zar 28 _ rfl w3.heap.size cs 28 rfl W hSw _ Tryz.underlying28 rfl 13 zae row.1) p5 ?_
   simp only [Act.put,pB,pC,pD]
   refine wpAnyH_ready (rs:=[4,7]) (by kernel_rfl) (by simp) ?_
   refine AllReadyH.cons rfl (fun K hK=>?_) (AllReadyH.cons rfl (fun K hK=>?_) AllReadyH.nil)
   ·
    have k_:=g5
    go_simp
    refine hK.out _ _ ?_ (fun _=>?_)
    ·
     exact p5
    clear hK K
    refine wpAnyH_ready (rs:=[7]) (by kernel_rfl) (by simp) ?_
    refine aR rfl fun K hK=>?_
    go_simp
    refine (hru _ ps5 tr5).mono ?_
    rintro e w6 ⟨vst,rfl,own6,b6⟩
    have p6:=zab b6 p5
    have q6:=zab b6 q5
    have h6:=h5.later b6
    have tr6:=tr5.later b6
    have hB6:=hB5.trans (b6.mono hB5.size)
    have kT6:=kT5.later b6
    have hgh6:=zab b6 hgh5
    have g6:=(b6.cell (p:=⟨gb,m * 3 + 2,none⟩) (zah hgh5)).trans g5
    have z6:=b6.size
    refine hK.out _ _ ?_ (fun _=>?_)
    ·
     exact p6
    clear hK K
    refine wpAnyH_ready (rs:=[8]) (by kernel_rfl) (by simp) ?_
    refine aR rfl fun K hK=>?_
    have rr:RuP (fun x=>w1'.heap.size ≤ x ∧ x < w6.heap.size) w6 ⟨fGet (parseL (rcS l)) nm,psX (rcX l),fWithout (parseL (rcS l)) []⟩ (ruA ⟨fGet (parseL (rcS l)) nm,psX (rcX l),fWithout (parseL (rcS l)) []⟩ cs vst):=⟨cs,vst,rfl,TrP.bound _ tr6,st_of own6 (by omega)⟩
    have rrow:=rr.row
    refine zhv _ (some 72) rfl rfl (by rfl) (ruA ⟨fGet (parseL (rcS l)) nm,psX (rcX l),fWithout (parseL (rcS l)) []⟩ cs vst) rfl rrow.1 ?_
    intro w7 n7 B7 z7'
    have p7:=zab B7 p6
    have q7:=zab B7 q6
    have h7:=h6.later B7
    have hB7:=hB6.trans (B7.mono hB6.size)
    have kT7:=kT6.later B7
    have hgh7:=zab B7 hgh6
    have g7:=(B7.cell (p:=⟨gb,m * 3 + 2,none⟩) (zah hgh6)).trans g6
    have rr7:=rr.later B7
    refine hK.out _ _ ?_ (fun _=>?_)
    ·
     exact p7
    clear hK K
    refine wpAnyH_ready (rs:=[9]) (by kernel_rfl) (by simp) ?_
    refine aR rfl fun K hK=>?_
    obtain ⟨u,hu,rss,ho,hrl',hrk⟩:=h7.rs gs0.length g (by simp)
    have hvl:vs0.length = gs0.length:=by have:=h7.len;simpa using this
    have eu:u = .slice au g.rs.length cu:=by rw [← hvl] at hu;simp at hu;exact hu.symm
    subst eu
    refine zay _ _ (some 73) 60 rfl rfl (by rfl) wb.heap.size 65 i0 _ 15 176 Tryz.underlying60 hi hiz0 hiz1 hiz2 rfl (by decide) (.slice au g.rs.length cu) g.rs.length (rss.flatMap (·.toList)) rfl ho ⟨w6.heap.size,0,none⟩ 1 1 (ruA ⟨fGet (parseL (rcS l)) nm,psX (rcX l),fWithout (parseL (rcS l)) []⟩ cs vst).toList rfl (by simpa using rrow.1) ?hnews ?hone ?h63 ?hby ?hbs ?_
    case hnews=>
     intro j u hu
     rw [Addr.add_lit,Nat.zero_add,zaa n7 j]
     simpa using hu
    case hone=>
     intro u hu
     exact List.all_eq_true.1 rrow.2 u hu
    case h63=>unfold maxLen;omega
    case hby=>omega
    case hbs=>exact hB7.size
    intro v' w8 own8 hg8' hat8
    have o8:=zas hg8'
    have p8:=o8.heap p7 (fun hm=>by have:=hub _ (by simpa using hm);have:=b3.size;omega)
    have q8:=o8.heap q7 (fun hm=>zap ho q7 (by decide) (by simpa using hm))
    have hgh8:=o8.heap hgh7 (fun hm=>zap ho hgh7 (by decide) (by simpa using hm))
    have hB8:Below wb.heap.size wb w8:=((Off.of hB7 []).trans o8 (fun y hy=>Or.inr (zan ho y (by simpa using hy)).1)).below (by simp)
    have kT8:=kT7.own ho hg8' (by decide)
    obtain ⟨ao',cap',rfl⟩:=zav own8
    refine hK.out _ _ ?_ (fun _=>?_)
    ·
     exact p8
    clear hK K
    refine tk 10 74 (.pointer (some ⟨gb,m * 3,none⟩)) rfl (fun W hSw=>by go_simp) p8 ?_
    simp only [Act.put,pB,pC,pD]
    refine tk 11 75 (.pointer (some ⟨gb,m * 3 + 2,none⟩)) rfl (fun W hSw=>by go_simp) p8 ?_
    simp only [Act.put,pB,pC,pD]
    refine wpAnyH_ready (rs:=[12]) (by kernel_rfl) (by simp) ?_
    refine aR rfl fun K hK=>?_
    refine zbv 60 _ _ none rfl rfl (by rfl) gb (m * 3 + 2) (.slice ao' (g.rs.length + 1) cap') rfl rfl cur0 138 hgh8 hgsz rz60 rfl _ rfl ?_
    intro w9' k9 o9' z9'
    have hF9:∀ x,(w1'.heap.size ≤ x ∧ x < w6.heap.size) → x < w7.heap.size ∧ wb.heap.size ≤ x ∧ x ≠ b ∧ vr.ownBlock ≠ some x ∧ (Value.slice (some ⟨gb,0,none⟩) (m + 1) gcap).ownBlock ≠ some x ∧ ∀ v ∈ vs0 ++ [Value.slice au g.rs.length cu],v.ownBlock ≠ some x:=by
     intro x hx
     have hx1:=hx.1
     have hx2:=hx.2
     have y1:=B7.size
     have y2:=hB1.size
     refine ⟨by omega,by omega,by omega,fun e=>?_,fun e=>?_,fun v hv e=>?_⟩
     ·
      have:=hvr x e
      omega
     ·
      have e2:gb = x:=by simpa [Value.ownBlock] using e
      omega
     have:=hall v hv x e
     omega
    have h9:=h7.addR ⟨fGet (parseL (rcS l)) nm,psX (rcX l),fWithout (parseL (rcS l)) []⟩ (ruA ⟨fGet (parseL (rcS l)) nm,psX (rcX l),fWithout (parseL (rcS l)) []⟩ cs vst) rr7 hF9 rss hrl' hrk ho own8 hg8' hat8 rfl cur0 hgh7 (by rw [HM.out];exact k9) o9'
    have hn9:¬ (F w.heap.size ∨ (w1'.heap.size ≤ w.heap.size ∧ w.heap.size < w6.heap.size)):=by
     rintro (hq | hq)
     ·
      exact hnF hq
     have:=hq.1
     have:=zah q1
     omega
    have p9:=o9'.heap p8 (by have:=b3.size;simp;omega)
    have q9':=o9'.heap q8 (by have:=zbf q8 hgh8 (by decide);simpa using this)
    have hB9:=((Off.of hB8 []).trans o9' (by have:=(zan h7.gs gb rfl).1;simp;omega)).below (by simp)
    have kT9:=kT8.st hgh8 (by decide) o9'
    refine hK.out _ _ ?_ (fun _=>?_)
    ·
     exact p9
    clear hK K
    refine wpAnyH_done (by kernel_rfl) ?_ _
    refine NoPanic.normal ?_
    go_wp2_with (refine zad rfl 87 _ _ rfl w.heap.size #[.int .i64 0,.int .i64 0] rfl rfl _ 87 q9' 2 rz87 rfl ⟨rfl,rfl⟩ ?_;intro w9 q9 o9 z9)
    exact bodyPost_ret (zak Tryz.results93 _ _ w.heap.size 87 #[.int .i64 0,.int .i64 0] _ rfl q9 Tryz.underlying87 rfl 2 rz87 rfl) rfl ⟨((Off.of hB9 []).trans o9 (by simp;omega)).below (by simp),kT9.fresh o9 (Nat.le_refl _),rfl,_,vr,_,_,fun x hx=>hx.elim Or.inl (fun hx=>Or.inr (by have:=hx.1;have:=zah q1;omega)),h9.off9 o9 ⟨by omega,hn9⟩ q9'⟩
   go_simp
   refine (hru _ ps5 tr5).mono ?_
   rintro e w6 ⟨vst,rfl,own6,b6⟩
   have p6:=zab b6 p5
   have q6:=zab b6 q5
   have h6:=h5.later b6
   have tr6:=tr5.later b6
   have hB6:=hB5.trans (b6.mono hB5.size)
   have kT6:=kT5.later b6
   have hgh6:=zab b6 hgh5
   have g6:=(b6.cell (p:=⟨gb,m * 3 + 2,none⟩) (zah hgh5)).trans g5
   have z6:=b6.size
   refine hK.out _ _ ?_ (fun _=>?_)
   ·
    exact p6
   clear hK K
   refine wpAnyH_ready (rs:=[4,8]) (by kernel_rfl) (by simp) ?_
   refine AllReadyH.cons rfl (fun K hK=>?_) (AllReadyH.cons rfl (fun K hK=>?_) AllReadyH.nil)
   ·
    have k_:=g6
    go_simp
    refine hK.out _ _ ?_ (fun _=>?_)
    ·
     exact p6
    clear hK K
    refine wpAnyH_ready (rs:=[8]) (by kernel_rfl) (by simp) ?_
    refine aR rfl fun K hK=>?_
    have rr:RuP (fun x=>w1'.heap.size ≤ x ∧ x < w6.heap.size) w6 ⟨fGet (parseL (rcS l)) nm,psX (rcX l),fWithout (parseL (rcS l)) []⟩ (ruA ⟨fGet (parseL (rcS l)) nm,psX (rcX l),fWithout (parseL (rcS l)) []⟩ cs vst):=⟨cs,vst,rfl,TrP.bound _ tr6,st_of own6 (by omega)⟩
    have rrow:=rr.row
    refine zhv _ (some 72) rfl rfl (by rfl) (ruA ⟨fGet (parseL (rcS l)) nm,psX (rcX l),fWithout (parseL (rcS l)) []⟩ cs vst) rfl rrow.1 ?_
    intro w7 n7 B7 z7'
    have p7:=zab B7 p6
    have q7:=zab B7 q6
    have h7:=h6.later B7
    have hB7:=hB6.trans (B7.mono hB6.size)
    have kT7:=kT6.later B7
    have hgh7:=zab B7 hgh6
    have g7:=(B7.cell (p:=⟨gb,m * 3 + 2,none⟩) (zah hgh6)).trans g6
    have rr7:=rr.later B7
    refine hK.out _ _ ?_ (fun _=>?_)
    ·
     exact p7
    clear hK K
    refine wpAnyH_ready (rs:=[9]) (by kernel_rfl) (by simp) ?_
    refine aR rfl fun K hK=>?_
    obtain ⟨u,hu,rss,ho,hrl',hrk⟩:=h7.rs gs0.length g (by simp)
    have hvl:vs0.length = gs0.length:=by have:=h7.len;simpa using this
    have eu:u = .slice au g.rs.length cu:=by rw [← hvl] at hu;simp at hu;exact hu.symm
    subst eu
    refine zay _ _ (some 73) 60 rfl rfl (by rfl) wb.heap.size 65 i0 _ 15 176 Tryz.underlying60 hi hiz0 hiz1 hiz2 rfl (by decide) (.slice au g.rs.length cu) g.rs.length (rss.flatMap (·.toList)) rfl ho ⟨w6.heap.size,0,none⟩ 1 1 (ruA ⟨fGet (parseL (rcS l)) nm,psX (rcX l),fWithout (parseL (rcS l)) []⟩ cs vst).toList rfl (by simpa using rrow.1) ?hnews ?hone ?h63 ?hby ?hbs ?_
    case hnews=>
     intro j u hu
     rw [Addr.add_lit,Nat.zero_add,zaa n7 j]
     simpa using hu
    case hone=>
     intro u hu
     exact List.all_eq_true.1 rrow.2 u hu
    case h63=>unfold maxLen;omega
    case hby=>omega
    case hbs=>exact hB7.size
    intro v' w8 own8 hg8' hat8
    have o8:=zas hg8'
    have p8:=o8.heap p7 (fun hm=>by have:=hub _ (by simpa using hm);have:=b3.size;omega)
    have q8:=o8.heap q7 (fun hm=>zap ho q7 (by decide) (by simpa using hm))
    have hgh8:=o8.heap hgh7 (fun hm=>zap ho hgh7 (by decide) (by simpa using hm))
    have hB8:Below wb.heap.size wb w8:=((Off.of hB7 []).trans o8 (fun y hy=>Or.inr (zan ho y (by simpa using hy)).1)).below (by simp)
    have kT8:=kT7.own ho hg8' (by decide)
    obtain ⟨ao',cap',rfl⟩:=zav own8
    refine hK.out _ _ ?_ (fun _=>?_)
    ·
     exact p8
    clear hK K
    refine tk 10 74 (.pointer (some ⟨gb,m * 3,none⟩)) rfl (fun W hSw=>by go_simp) p8 ?_
    simp only [Act.put,pB,pC,pD]
    refine tk 11 75 (.pointer (some ⟨gb,m * 3 + 2,none⟩)) rfl (fun W hSw=>by go_simp) p8 ?_
    simp only [Act.put,pB,pC,pD]
    refine wpAnyH_ready (rs:=[12]) (by kernel_rfl) (by simp) ?_
    refine aR rfl fun K hK=>?_
    refine zbv 60 _ _ none rfl rfl (by rfl) gb (m * 3 + 2) (.slice ao' (g.rs.length + 1) cap') rfl rfl cur0 138 hgh8 hgsz rz60 rfl _ rfl ?_
    intro w9' k9 o9' z9'
    have hF9:∀ x,(w1'.heap.size ≤ x ∧ x < w6.heap.size) → x < w7.heap.size ∧ wb.heap.size ≤ x ∧ x ≠ b ∧ vr.ownBlock ≠ some x ∧ (Value.slice (some ⟨gb,0,none⟩) (m + 1) gcap).ownBlock ≠ some x ∧ ∀ v ∈ vs0 ++ [Value.slice au g.rs.length cu],v.ownBlock ≠ some x:=by
     intro x hx
     have hx1:=hx.1
     have hx2:=hx.2
     have y1:=B7.size
     have y2:=hB1.size
     refine ⟨by omega,by omega,by omega,fun e=>?_,fun e=>?_,fun v hv e=>?_⟩
     ·
      have:=hvr x e
      omega
     ·
      have e2:gb = x:=by simpa [Value.ownBlock] using e
      omega
     have:=hall v hv x e
     omega
    have h9:=h7.addR ⟨fGet (parseL (rcS l)) nm,psX (rcX l),fWithout (parseL (rcS l)) []⟩ (ruA ⟨fGet (parseL (rcS l)) nm,psX (rcX l),fWithout (parseL (rcS l)) []⟩ cs vst) rr7 hF9 rss hrl' hrk ho own8 hg8' hat8 rfl cur0 hgh7 (by rw [HM.out];exact k9) o9'
    have hn9:¬ (F w.heap.size ∨ (w1'.heap.size ≤ w.heap.size ∧ w.heap.size < w6.heap.size)):=by
     rintro (hq | hq)
     ·
      exact hnF hq
     have:=hq.1
     have:=zah q1
     omega
    have p9:=o9'.heap p8 (by have:=b3.size;simp;omega)
    have q9':=o9'.heap q8 (by have:=zbf q8 hgh8 (by decide);simpa using this)
    have hB9:=((Off.of hB8 []).trans o9' (by have:=(zan h7.gs gb rfl).1;simp;omega)).below (by simp)
    have kT9:=kT8.st hgh8 (by decide) o9'
    refine hK.out _ _ ?_ (fun _=>?_)
    ·
     exact p9
    clear hK K
    refine wpAnyH_done (by kernel_rfl) ?_ _
    refine NoPanic.normal ?_
    go_wp2_with (refine zad rfl 87 _ _ rfl w.heap.size #[.int .i64 0,.int .i64 0] rfl rfl _ 87 q9' 2 rz87 rfl ⟨rfl,rfl⟩ ?_;intro w9 q9 o9 z9)
    exact bodyPost_ret (zak Tryz.results93 _ _ w.heap.size 87 #[.int .i64 0,.int .i64 0] _ rfl q9 Tryz.underlying87 rfl 2 rz87 rfl) rfl ⟨((Off.of hB9 []).trans o9 (by simp;omega)).below (by simp),kT9.fresh o9 (Nat.le_refl _),rfl,_,vr,_,_,fun x hx=>hx.elim Or.inl (fun hx=>Or.inr (by have:=hx.1;have:=zah q1;omega)),h9.off9 o9 ⟨by omega,hn9⟩ q9'⟩
   have rr:RuP (fun x=>w1'.heap.size ≤ x ∧ x < w6.heap.size) w6 ⟨fGet (parseL (rcS l)) nm,psX (rcX l),fWithout (parseL (rcS l)) []⟩ (ruA ⟨fGet (parseL (rcS l)) nm,psX (rcX l),fWithout (parseL (rcS l)) []⟩ cs vst):=⟨cs,vst,rfl,TrP.bound _ tr6,st_of own6 (by omega)⟩
   have rrow:=rr.row
   refine zhv _ (some 72) rfl rfl (by rfl) (ruA ⟨fGet (parseL (rcS l)) nm,psX (rcX l),fWithout (parseL (rcS l)) []⟩ cs vst) rfl rrow.1 ?_
   intro w7 n7 B7 z7'
   have p7:=zab B7 p6
   have q7:=zab B7 q6
   have h7:=h6.later B7
   have hB7:=hB6.trans (B7.mono hB6.size)
   have kT7:=kT6.later B7
   have hgh7:=zab B7 hgh6
   have g7:=(B7.cell (p:=⟨gb,m * 3 + 2,none⟩) (zah hgh6)).trans g6
   have rr7:=rr.later B7
   refine hK.out _ _ ?_ (fun _=>?_)
   ·
    exact p7
   clear hK K
   refine wpAnyH_ready (rs:=[4]) (by kernel_rfl) (by simp) ?_
   refine aR rfl fun K hK=>?_
   have k_:=g7
   go_simp
   refine hK.out _ _ ?_ (fun _=>?_)
   ·
    exact p7
   clear hK K
   refine wpAnyH_ready (rs:=[9]) (by kernel_rfl) (by simp) ?_
   refine aR rfl fun K hK=>?_
   obtain ⟨u,hu,rss,ho,hrl',hrk⟩:=h7.rs gs0.length g (by simp)
   have hvl:vs0.length = gs0.length:=by have:=h7.len;simpa using this
   have eu:u = .slice au g.rs.length cu:=by rw [← hvl] at hu;simp at hu;exact hu.symm
   subst eu
   refine zay _ _ (some 73) 60 rfl rfl (by rfl) wb.heap.size 65 i0 _ 15 176 Tryz.underlying60 hi hiz0 hiz1 hiz2 rfl (by decide) (.slice au g.rs.length cu) g.rs.length (rss.flatMap (·.toList)) rfl ho ⟨w6.heap.size,0,none⟩ 1 1 (ruA ⟨fGet (parseL (rcS l)) nm,psX (rcX l),fWithout (parseL (rcS l)) []⟩ cs vst).toList rfl (by simpa using rrow.1) ?hnews ?hone ?h63 ?hby ?hbs ?_
   case hnews=>
    intro j u hu
    rw [Addr.add_lit,Nat.zero_add,zaa n7 j]
    simpa using hu
   case hone=>
    intro u hu
    exact List.all_eq_true.1 rrow.2 u hu
   case h63=>unfold maxLen;omega
   case hby=>omega
   case hbs=>exact hB7.size
   intro v' w8 own8 hg8' hat8
   have o8:=zas hg8'
   have p8:=o8.heap p7 (fun hm=>by have:=hub _ (by simpa using hm);have:=b3.size;omega)
   have q8:=o8.heap q7 (fun hm=>zap ho q7 (by decide) (by simpa using hm))
   have hgh8:=o8.heap hgh7 (fun hm=>zap ho hgh7 (by decide) (by simpa using hm))
   have hB8:Below wb.heap.size wb w8:=((Off.of hB7 []).trans o8 (fun y hy=>Or.inr (zan ho y (by simpa using hy)).1)).below (by simp)
   have kT8:=kT7.own ho hg8' (by decide)
   obtain ⟨ao',cap',rfl⟩:=zav own8
   refine hK.out _ _ ?_ (fun _=>?_)
   ·
    exact p8
   clear hK K
   refine tk 10 74 (.pointer (some ⟨gb,m * 3,none⟩)) rfl (fun W hSw=>by go_simp) p8 ?_
   simp only [Act.put,pB,pC,pD]
   refine tk 11 75 (.pointer (some ⟨gb,m * 3 + 2,none⟩)) rfl (fun W hSw=>by go_simp) p8 ?_
   simp only [Act.put,pB,pC,pD]
   refine wpAnyH_ready (rs:=[12]) (by kernel_rfl) (by simp) ?_
   refine aR rfl fun K hK=>?_
   refine zbv 60 _ _ none rfl rfl (by rfl) gb (m * 3 + 2) (.slice ao' (g.rs.length + 1) cap') rfl rfl cur0 138 hgh8 hgsz rz60 rfl _ rfl ?_
   intro w9' k9 o9' z9'
   have hF9:∀ x,(w1'.heap.size ≤ x ∧ x < w6.heap.size) → x < w7.heap.size ∧ wb.heap.size ≤ x ∧ x ≠ b ∧ vr.ownBlock ≠ some x ∧ (Value.slice (some ⟨gb,0,none⟩) (m + 1) gcap).ownBlock ≠ some x ∧ ∀ v ∈ vs0 ++ [Value.slice au g.rs.length cu],v.ownBlock ≠ some x:=by
    intro x hx
    have hx1:=hx.1
    have hx2:=hx.2
    have y1:=B7.size
    have y2:=hB1.size
    refine ⟨by omega,by omega,by omega,fun e=>?_,fun e=>?_,fun v hv e=>?_⟩
    ·
     have:=hvr x e
     omega
    ·
     have e2:gb = x:=by simpa [Value.ownBlock] using e
     omega
    have:=hall v hv x e
    omega
   have h9:=h7.addR ⟨fGet (parseL (rcS l)) nm,psX (rcX l),fWithout (parseL (rcS l)) []⟩ (ruA ⟨fGet (parseL (rcS l)) nm,psX (rcX l),fWithout (parseL (rcS l)) []⟩ cs vst) rr7 hF9 rss hrl' hrk ho own8 hg8' hat8 rfl cur0 hgh7 (by rw [HM.out];exact k9) o9'
   have hn9:¬ (F w.heap.size ∨ (w1'.heap.size ≤ w.heap.size ∧ w.heap.size < w6.heap.size)):=by
    rintro (hq | hq)
    ·
     exact hnF hq
    have:=hq.1
    have:=zah q1
    omega
   have p9:=o9'.heap p8 (by have:=b3.size;simp;omega)
   have q9':=o9'.heap q8 (by have:=zbf q8 hgh8 (by decide);simpa using this)
   have hB9:=((Off.of hB8 []).trans o9' (by have:=(zan h7.gs gb rfl).1;simp;omega)).below (by simp)
   have kT9:=kT8.st hgh8 (by decide) o9'
   refine hK.out _ _ ?_ (fun _=>?_)
   ·
    exact p9
   clear hK K
   refine wpAnyH_done (by kernel_rfl) ?_ _
   refine NoPanic.normal ?_
   go_wp2_with (refine zad rfl 87 _ _ rfl w.heap.size #[.int .i64 0,.int .i64 0] rfl rfl _ 87 q9' 2 rz87 rfl ⟨rfl,rfl⟩ ?_;intro w9 q9 o9 z9)
   exact bodyPost_ret (zak Tryz.results93 _ _ w.heap.size 87 #[.int .i64 0,.int .i64 0] _ rfl q9 Tryz.underlying87 rfl 2 rz87 rfl) rfl ⟨((Off.of hB9 []).trans o9 (by simp;omega)).below (by simp),kT9.fresh o9 (Nat.le_refl _),rfl,_,vr,_,_,fun x hx=>hx.elim Or.inl (fun hx=>Or.inr (by have:=hx.1;have:=zah q1;omega)),h9.off9 o9 ⟨by omega,hn9⟩ q9'⟩
  rw [if_neg hy]
  have hy1:((exW (rcX l)).2 != 0) = true:=by rw [bne_iff_ne];exact hy
  have hy2:((exW (rcX l)).2 == 0) = false:=beq_eq_false_iff_ne.2 hy
  have hw1:IntKind.i64.wrap ((l.length:Int) - (rcX l).length) = (l.length:Int) - (rcX l).length:=by rw [IntKind.wrap_i64];omega
  obtain ⟨pl,hpw⟩:∃ pl,IntKind.i64.wrap ((l.length:Int) - (rcX l).length + (exW (rcX l)).1) = pl:=⟨_,rfl⟩
  have HW:Hid (wI ((l.length:Int) - (rcX l).length + (exW (rcX l)).1) = pl):=hpw
  go_enter Tryz.func93,Tryz.ntmps93
  go_wp2_with fail
  generalize w.alloc (.cells #[.int .i64 0,.int .i64 0] 87) = w0 at *
  refine hro2.mono ?_
  rintro e w1 ⟨ao,cap,rfl,own,ps,b1⟩
  rw [← hz0] at b1
  have q1:=zab b1 q0
  have hB1:=hB0.trans (b1.mono hB0.size)
  have kT1:=kT0.later b1
  have h1:=h0'.later b1
  have hgh1:=zab b1 hgh
  have d1:=(zaa h1.hd 1).trans rfl
  have g1:w1.cell? ⟨gb,m * 3 + 2,none⟩ = some (.slice au g.rs.length cu):=(b1.cell (p:=⟨gb,m * 3 + 2,none⟩) (zah hgh)).trans hgc
  clear hro2 hgc hgh h0'
  go_upto_region 4 with fail
  have B4:=zag w1
  have hB2:=hB1.trans (B4.mono hB1.size)
  have kT2:=kT1.later B4
  have hm1:IntKind.i64.wrap (m:Int) = (m:Int):=by rw [IntKind.wrap_i64];omega
  have hm2:((m:Int) + 1 - 1) = (m:Int):=by omega
  have d1':(w1.drew).cell? ⟨b,1,none⟩ = some (.slice (some ⟨gb,0,none⟩) (m + 1) gcap):=d1
  refine wp_region_noPanic ?_
  refine wp_region_held_drew (S:=fun W=>W.cell? ⟨b,1,none⟩ = some (.slice (some ⟨gb,0,none⟩) (m + 1) gcap)) (by kernel_rfl) ?_ (fun _=>?_)
  ·
   exact d1'
  refine tk 0 29 (.pointer (some ⟨b,0,none⟩)) rfl (fun W hSw=>by go_simp) d1' ?_
  simp only [Act.put,pB,pC,pD]
  refine tk 1 30 (.pointer (some ⟨b,0,none⟩)) rfl (fun W hSw=>by go_simp) d1' ?_
  simp only [Act.put,pB,pC,pD]
  refine tk 2 31 (.pointer (some ⟨b,1,none⟩)) rfl (fun W hSw=>by go_simp) d1' ?_
  simp only [Act.put,pB,pC,pD]
  refine tk 3 32 (.slice (some ⟨gb,0,none⟩) (m + 1) gcap) rfl (fun W hSw=>by (have c:=hSw;go_simp)) d1' ?_
  simp only [Act.put,pB,pC,pD]
  refine tk 4 33 (.pointer (some ⟨b,0,none⟩)) rfl (fun W hSw=>by go_simp) d1' ?_
  simp only [Act.put,pB,pC,pD]
  refine tk 5 34 (.pointer (some ⟨b,0,none⟩)) rfl (fun W hSw=>by go_simp) d1' ?_
  simp only [Act.put,pB,pC,pD]
  refine tk 6 35 (.pointer (some ⟨b,1,none⟩)) rfl (fun W hSw=>by go_simp) d1' ?_
  simp only [Act.put,pB,pC,pD]
  refine tk 7 36 (.slice (some ⟨gb,0,none⟩) (m + 1) gcap) rfl (fun W hSw=>by (have c:=hSw;go_simp)) d1' ?_
  simp only [Act.put,pB,pC,pD]
  refine tk 8 37 (.int .i64 ((m:Int) + 1)) rfl (fun W hSw=>by go_simp) d1' ?_
  simp only [Act.put,pB,pC,pD]
  refine tk 9 38 (.int .i64 (m:Int)) rfl (fun W hSw=>by go_simp) d1' ?_
  simp only [Act.put,pB,pC,pD]
  refine tk 10 39 (.pointer (some ⟨gb,m * 3,none⟩)) rfl (fun W hSw=>by (go_simp;intro hq;omega)) d1' ?_
  simp only [Act.put,pB,pC,pD]
  refine tk 11 8 (.pointer (some ⟨gb,m * 3,none⟩)) rfl (fun W hSw=>by go_simp) d1' ?_
  simp only [Act.put,pB,pC,pD]
  refine wpAnyH_done (by kernel_rfl) ?_ _
  refine NoPanic.normal ?_
  have g1:w1.drew.cell? ⟨gb,m * 3 + 2,none⟩ = some (.slice au g.rs.length cu):=g1
  have q1:w1.drew.heap[w.heap.size]? = some _:=q1
  have h1:=h1.later B4
  have hgh1:w1.drew.heap[gb]? = some _:=hgh1
  have own:=own.later B4
  have ps:=ps.later B4
  have hB1:=hB2
  have kT1:=kT2
  have zd:w1.drew.heap.size = w1.heap.size:=rfl
  clear d1 d1' hB2
  generalize w1.drew = w1' at *
  go_wp2_with fail
  have e1:=he.later hB1
  have t1:=het.later hB1
  refine (hex _ e1 t1).mono ?_
  rintro e w3 ⟨cs,rfl,tr,b3⟩
  have row:=tr.row
  have q3:=zab b3 q1
  have h3:=h1.later b3
  have hB3:=hB1.trans (b3.mono hB1.size)
  have kT3:=kT1.later b3
  have own3:=own.later b3
  have ps3:=ps.later b3
  have qn:=zac w3 (.cells (exA 0 0 false 0 [] nl 0 false false false false nl nl) 28)
  go_wp2_with (first | (refine zad rfl 28 _ _ rfl w3.heap.size cs rfl rfl _ 28 qn 13 zae rfl row ?_;intro w4 p4 o4 z4;have b34:=((Off.of (bal (Below.refl w3.heap.size w3) (.cells (exA 0 0 false 0 [] nl 0 false false false false nl nl) 28)) []).trans o4 (by simp)).below (by simp);have q4:=zab b34 q3) | (refine zad rfl 87 _ _ rfl w.heap.size #[.int .i64 pl,.int .i64 (exW (rcX l)).2] rfl rfl _ 87 q4 2 rz87 rfl ⟨rfl,rfl⟩ ?_;intro w9 q9 o9 z9))
  have hB4:=hB3.trans (b34.mono hB3.size)
  have kT4:=kT3.later b34
  exact bodyPost_ret (zak Tryz.results93 _ _ w.heap.size 87 #[.int .i64 pl,.int .i64 (exW (rcX l)).2] _ rfl q9 Tryz.underlying87 rfl 2 rz87 rfl) rfl ⟨((Off.of hB4 []).trans o9 (by simp;omega)).below (by simp),kT4.fresh o9 (Nat.le_refl _),by rw [HW.out]⟩
end Go.Proofs.YtjlaihekocjggaaGreatDoor
