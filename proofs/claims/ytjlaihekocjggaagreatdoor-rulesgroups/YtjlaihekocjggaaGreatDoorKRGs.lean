/- The law RulesGroups: groups refused and taken. -/
import Derived.Test.YtjlaihekocjggaaGreatDoorKRPz
set_option maxHeartbeats 16000000
namespace Go.Proofs.YtjlaihekocjggaaGreatDoor
open Go.RowKit
theorem wp_mkB {w:World} {ops:Array Oper} {rest:List Oper} {o:Oper} {a:Act} {Q:Exit → Act → World → Prop} (hgd:o.guard = none) (x:Operand) (ho:o.op = .buildSlice 55 1 #[(0,x)]) (n:Int) (hx:a.eval x = .int .u8 n)
  (h:∀ W,W.heap[w.heap.size]? = some (.cells #[.int .u8 n] 5) → Below w.heap.size w W → wpList Tryz.prog ops Q rest (a.put o.dst (.slice (some ⟨w.heap.size,0,none⟩) 1 1)) W):wpList Tryz.prog ops Q (o :: rest) a w:=by
 refine wpList_plain hgd fun K hK=>?_
 have k:=hK _ _ (h _ (zac w _) (bal (Below.refl _ _) _))
 have e:(Array.map (fun y:Nat × Operand=>(y.1,a.eval y.2)) #[(0,x)]) = #[(0,.int .u8 n)]:=by simp [hx]
 have e2:(Instr.buildSlice 55 1 #[(0,.int .u8 n)]).run Tryz.prog w = .ok (.slice (some ⟨w.heap.size,0,none⟩) 1 1) (w.alloc (.cells #[.int .u8 n] 5)):=by kernel_rfl
 unfold Oper.wp execOp
 simp only [ho,e,Sem.run_bind,Result.andThen_ok,e2]
 exact k
theorem wp_bs {w:World} {ops:Array Oper} {rest:List Oper} {o:Oper} {a:Act} {Q:Exit → Act → World → Prop} (hgd:o.guard = none) (x:Operand) (ho:o.op = .convert 55 9 x) (b:Nat) (u:UInt8) (hx:a.eval x = .slice (some ⟨b,0,none⟩) 1 1)
  (hb:w.heap[b]? = some (.cells #[.int .u8 (u.toNat:Int)] 5)) (h:wpList Tryz.prog ops Q rest (a.put o.dst (tx [u])) w):wpList Tryz.prog ops Q (o :: rest) a w:=by
 refine wpList_plain hgd fun K hK=>?_
 have k:=hK _ _ h
 have e:(Go.convert 55 9 (.slice (some ⟨b,0,none⟩) 1 1)).run Tryz.prog w = .ok (.string ⟨[u].toArray⟩) w:=run_convert_bytes_back w 55 9 5 ⟨b,0,none⟩ 1 [u] Tryz.underlying55 Tryz.underlying5 Tryz.underlying9 (fun j hj=>by
  obtain rfl:j = 0:=by simpa using hj
  exact (zaa hb 0).trans rfl)
 unfold Oper.wp execOp
 simp only [ho,hx,Sem.run_bind,Result.andThen_ok,e]
 exact k
theorem CfP.grp {P:Nat → Prop} {w:World} {c:Cf} {cs:Array Value} {g:Gr} (h:CfP P w c cs) (hg:c.gs[0]? = some g) :
  ∃ al cl gb off cg,cs = #[.slice al c.rl.length cl,.slice (some ⟨gb,off,none⟩) c.gs.length cg] ∧ w.cell? ⟨gb,off + 1,none⟩ = some (.int .i64 g.ev) ∧ gb < w.heap.size:=by
 obtain ⟨vr,vg,rfl,h1,h2⟩:=h
 obtain ⟨al,cl,rfl,_⟩:=zkx h1
 obtain ⟨ag,cg,css,rfl,_,hcl,svg,_,hkey⟩:=h2.view
 obtain ⟨a,m,k,hcs,rfl,hR⟩:=hkey 0 g hg
 obtain ⟨gb,off,rfl,hra⟩:=svg 0 _ hcs
 have k1:=hra 1 _ rfl
 simp only [Nat.zero_mul,Nat.add_zero] at k1
 exact ⟨al,cl,gb,off,cg,rfl,k1,World.block_lt_of_cell? _ _ k1⟩
theorem rof_any (s:Str) (a y:Int) (w:World) (hs:s.length ≤ 1000000) (h:(pF s).2 = (a,y)) (he:Ev w) (het:Et w):Calls Tryz.prog 36 #[tx s] w fun e w'=>∃ cs,e = .returned (.tuple #[.agg cs,.int .i64 y]) ∧ Row 2 cs ∧ Below w.heap.size w w':=by
 have hp:=pz_any s a y (w.alloc (.cells #[.slice none 0 0,.slice none 0 0] 39)) hs h (he.later (bal (Below.refl _ w) _)) (het.later (bal (Below.refl _ w) _))
 have q:=zac w (.cells #[.slice none 0 0,.slice none 0 0] 39)
 have B:=bal (Below.refl w.heap.size w) (.cells #[.slice none 0 0,.slice none 0 0] 39)
 go_enter Tryz.func36,Tryz.ntmps36
 go_wp2_with fail
 refine hp.mono ?_
 rintro e w1 ⟨cs,rfl,row,b1⟩
 have q1:=zab b1 q
 have C1:=Below.chain B b1
 have hlt:w.heap.size < w1.heap.size:=zah q1
 clear hp q b1 B
 go_wp2_with (first | (refine zad rfl 39 _ _ rfl w1.heap.size cs rfl rfl _ 39 (zac w1 (.cells #[.slice none 0 0,.slice none 0 0] 39)) 2 rz39 rfl row ?_;intro w2 p2 o2 z2;have d2:=((Off.of (bal (Below.refl w1.heap.size w1) (.cells #[.slice none 0 0,.slice none 0 0] 39)) []).trans o2 (by simp)).below (by simp);have q2:=zab d2 q1) | (refine zaj rfl 39 _ rfl w1.heap.size cs 39 rfl p2 _ Tryz.underlying39 rfl 2 rz39 row.1 ?_) | (refine zad rfl 39 _ _ rfl w.heap.size cs rfl rfl _ 39 q2 2 rz39 rfl row ?_;intro w3 q3 o3 z3))
 exact bodyPost_ret (zai Tryz.results36 _ _ w.heap.size 39 cs _ rfl q3 Tryz.underlying39 rfl 2 rz39 row.1) rfl ⟨_,rfl,row,((Off.of (Below.chain C1 d2) []).trans o3 (by simp)).below (by simp)⟩
def dg (m:Nat):Str:=if m > 9 then [UInt8.ofNat (48 + m / 10),UInt8.ofNat (48 + m % 10)] else [UInt8.ofNat (48 + m % 10)]
theorem dg_all:(List.range 60).all (fun m=>decide ((pX ([103,114,111,117,112,32,97,32,101,118,101,114,121,32] ++ dg m ++ [10])).2 = (0,if 1 ≤ m ∧ m ≤ 20 then 0 else 12)) && decide ((pX ([103,114,111,117,112,32,97,32,101,118,101,114,121,32,48] ++ dg m ++ [10])).2 = (0,12)) && decide (((pX ([103,114,111,117,112,32,97,32,101,118,101,114,121,32] ++ dg m ++ [10])).1.gs.map Gr.ev) = if 1 ≤ m ∧ m ≤ 20 then [(m:Int)] else [])) = true:=by kernel_rfl
theorem g1:(pX [103,114,111,117,112,32,49,32,101,118,101,114,121,32,49,10]).2 = (0,12):=by kernel_rfl
theorem g2:(pX [103,114,111,117,112,32,97,32,101,118,101,114,121,10]).2 = (0,12):=by kernel_rfl
theorem g3:(pX [103,114,111,117,112,32,97,32,101,118,101,114,121,32,49,10,103,114,111,117,112,32,97,32,101,118,101,114,121,32,49,10]).2 = (16,31):=by kernel_rfl
set_option maxRecDepth 4000 in
theorem groups_c (n:Int) (b:Value) (m q r:Nat) (uq ur:UInt8) (hm:n.tmod 60 = m) (hq:(m:Int).tdiv 10 = q) (hr:(m:Int).tmod 10 = r) (hr9:r < 10) (hq5:q < 6) (u48:(ur.toNat:Int) = 48 + (r:Int)) (u49:(uq.toNat:Int) = 48 + (q:Int)) (h9:9 < (m:Int)) (ho1:1 ≤ (m:Int)) (ho2:(m:Int) ≤ 20) (V1:Hid ((pF ([103,114,111,117,112,32,97,32,101,118,101,114,121,32] ++ [uq,ur] ++ [10])).2 = (0,0))) (V2:Hid ((pF ([103,114,111,117,112,32,97,32,101,118,101,114,121,32,48] ++ [uq,ur] ++ [10])).2 = (0,12))) (VG:Hid (∃ g:Gr,(pF ([103,114,111,117,112,32,97,32,101,118,101,114,121,32] ++ [uq,ur] ++ [10])).1.gs[0]? = some g ∧ g.ev = (m:Int))) (w:World) (he:Ev w) (het:Et w):Calls Tryz.prog 11 #[.int .u16 n,b] w fun e w'=>e = .returned (.bool true) ∧ Below w.heap.size w w':=by
 have hkn:=zol w he het
 have HE:Hid (Ev w):=he
 have HT:Hid (Et w):=het
 have h48:IntKind.i64.wrap (48 + (r:Int)) = 48 + (r:Int):=by rw [IntKind.wrap_i64];omega
 have h49:IntKind.i64.wrap (48 + (q:Int)) = 48 + (q:Int):=by rw [IntKind.wrap_i64];omega
 clear he het
 have hp1:=fun W=>zet ([103,114,111,117,112,32,97,32,101,118,101,114,121,32] ++ [uq,ur] ++ [10]) W (by simp)
 have hp2:=fun W=>rof_any ([103,114,111,117,112,32,97,32,101,118,101,114,121,32,48] ++ [uq,ur] ++ [10]) _ _ W (by simp) V2.out
 have hp3:=fun W=>rof_any [103,114,111,117,112,32,49,32,101,118,101,114,121,32,49,10] _ _ W (by simp) ((pX_eq _) ▸ g1)
 have hp4:=fun W=>rof_any [103,114,111,117,112,32,97,32,101,118,101,114,121,10] _ _ W (by simp) ((pX_eq _) ▸ g2)
 have hp5:=fun W=>rof_any [103,114,111,117,112,32,97,32,101,118,101,114,121,32,49,10,103,114,111,117,112,32,97,32,101,118,101,114,121,32,49,10] _ _ W (by simp) ((pX_eq _) ▸ g3)
 go_enter Tryz.func11,Tryz.ntmps11
 go_wp2_with fail
 refine hkn.mono ?_
 rintro e w1 ⟨rfl,b1⟩
 clear hkn
 go_wp2_with (first | (refine wp_bs rfl _ rfl w2.heap.size uq rfl (by rw [u49];exact p3) ?_) | (refine wp_bs rfl _ rfl w1.heap.size ur rfl (by rw [u48];exact p2) ?_) | (refine wp_mkB (w:=w1) rfl _ rfl _ rfl ?_;intro w2 p2 d2) | (refine wp_mkB rfl _ rfl _ rfl ?_;intro w3 p3 d3) | (refine zbm rfl 9 9 _ _ rfl _ _ rfl rfl (by simp) ?_))
 have B2:=Below.chain (Below.chain b1 d2) d3
 refine (hp1 _ (HE.out.later B2) (HT.out.later B2)).mono ?_
 rintro e v1a ⟨c1,rfl,cf,s1⟩
 rw [V1.out]
 have r1:=cf.row
 obtain ⟨g,hg,hev⟩:=VG.out
 obtain ⟨al,cl,gb,off,cg,rfl,k1,hgb⟩:=cf.grp hg
 have hgl:0 < (pF ([103,114,111,117,112,32,97,32,101,118,101,114,121,32] ++ [uq,ur] ++ [10])).1.gs.length:=(List.getElem?_eq_some_iff.1 hg).1
 rw [hev] at k1
 generalize (pF ([103,114,111,117,112,32,97,32,101,118,101,114,121,32] ++ [uq,ur] ++ [10])).1.gs.length = GL at *
 generalize (pF ([103,114,111,117,112,32,97,32,101,118,101,114,121,32] ++ [uq,ur] ++ [10])).1.rl.length = RL at *
 clear hg hev
 clear hp1 cf
 go_wp2_with (first | (refine zad rfl 39 _ _ rfl v1a.heap.size _ rfl rfl _ 39 (zac v1a (.cells #[.slice none 0 0,.slice none 0 0] 39)) 2 rz39 rfl r1 ?_;intro v1b p1' o1 z1;have e1:=((Off.of (bal (Below.refl v1a.heap.size v1a) (.cells #[.slice none 0 0,.slice none 0 0] 39)) []).trans o1 (by simp)).below (by simp)) | (refine zbm rfl 9 9 _ _ rfl _ _ rfl rfl (by simp) ?_))
 have C1:=Below.chain (Below.chain B2 s1) e1
 have q1:=p1'
 have k1':=(e1.cell (p:=⟨gb,off + 1,none⟩) hgb).trans k1
 have hg1:gb < v1b.heap.size:=World.block_lt_of_cell? _ _ k1'
 refine (hp2 _ (HE.out.later C1) (HT.out.later C1)).mono ?_
 rintro e v2a ⟨c2,rfl,r2,s2⟩
 clear hp2
 go_wp2_with (first | (refine zad rfl 39 _ _ rfl v2a.heap.size c2 rfl rfl _ 39 (zac v2a (.cells #[.slice none 0 0,.slice none 0 0] 39)) 2 rz39 rfl r2 ?_;intro v2b p2' o2 z2;have e2:=((Off.of (bal (Below.refl v2a.heap.size v2a) (.cells #[.slice none 0 0,.slice none 0 0] 39)) []).trans o2 (by simp)).below (by simp)) | (refine zbm rfl 9 9 _ _ rfl _ _ rfl rfl (by simp) ?_))
 have C2:=Below.chain (Below.chain C1 s2) e2
 have q2:=zab e2 (zab s2 q1)
 have k2:=(e2.cell (p:=⟨gb,off + 1,none⟩) (World.block_lt_of_cell? _ _ ((s2.cell (p:=⟨gb,off + 1,none⟩) hg1).trans k1'))).trans ((s2.cell (p:=⟨gb,off + 1,none⟩) hg1).trans k1')
 have hg2:gb < v2b.heap.size:=World.block_lt_of_cell? _ _ k2
 refine (hp3 _ (HE.out.later C2) (HT.out.later C2)).mono ?_
 rintro e v3a ⟨c3,rfl,r3,s3⟩
 clear hp3
 go_wp2_with (first | (refine zad rfl 39 _ _ rfl v3a.heap.size c3 rfl rfl _ 39 (zac v3a (.cells #[.slice none 0 0,.slice none 0 0] 39)) 2 rz39 rfl r3 ?_;intro v3b p3' o3 z3;have e3:=((Off.of (bal (Below.refl v3a.heap.size v3a) (.cells #[.slice none 0 0,.slice none 0 0] 39)) []).trans o3 (by simp)).below (by simp)) | (refine zbm rfl 9 9 _ _ rfl _ _ rfl rfl (by simp) ?_))
 have C3:=Below.chain (Below.chain C2 s3) e3
 have q3:=zab e3 (zab s3 q2)
 have k3:=(e3.cell (p:=⟨gb,off + 1,none⟩) (World.block_lt_of_cell? _ _ ((s3.cell (p:=⟨gb,off + 1,none⟩) hg2).trans k2))).trans ((s3.cell (p:=⟨gb,off + 1,none⟩) hg2).trans k2)
 have hg3:gb < v3b.heap.size:=World.block_lt_of_cell? _ _ k3
 refine (hp4 _ (HE.out.later C3) (HT.out.later C3)).mono ?_
 rintro e v4a ⟨c4,rfl,r4,s4⟩
 clear hp4
 go_wp2_with (first | (refine zad rfl 39 _ _ rfl v4a.heap.size c4 rfl rfl _ 39 (zac v4a (.cells #[.slice none 0 0,.slice none 0 0] 39)) 2 rz39 rfl r4 ?_;intro v4b p4' o4 z4;have e4:=((Off.of (bal (Below.refl v4a.heap.size v4a) (.cells #[.slice none 0 0,.slice none 0 0] 39)) []).trans o4 (by simp)).below (by simp)) | (refine zbm rfl 9 9 _ _ rfl _ _ rfl rfl (by simp) ?_))
 have C4:=Below.chain (Below.chain C3 s4) e4
 have q4:=zab e4 (zab s4 q3)
 have k4:=(e4.cell (p:=⟨gb,off + 1,none⟩) (World.block_lt_of_cell? _ _ ((s4.cell (p:=⟨gb,off + 1,none⟩) hg3).trans k3))).trans ((s4.cell (p:=⟨gb,off + 1,none⟩) hg3).trans k3)
 have hg4:gb < v4b.heap.size:=World.block_lt_of_cell? _ _ k4
 refine (hp5 _ (HE.out.later C4) (HT.out.later C4)).mono ?_
 rintro e v5a ⟨c5,rfl,r5,s5⟩
 clear hp5
 have k5:=(s5.cell (p:=⟨gb,off + 1,none⟩) hg4).trans k4
 have hg5:gb < v5a.heap.size:=World.block_lt_of_cell? _ _ k5
 go_wp2_with (first | go_skip | go_guarded | (refine zad rfl 39 _ _ rfl v5a.heap.size c5 rfl rfl _ 39 (zac v5a (.cells #[.slice none 0 0,.slice none 0 0] 39)) 2 rz39 rfl r5 ?_;intro v5b p5' o5 z5;have e5:=((Off.of (bal (Below.refl v5a.heap.size v5a) (.cells #[.slice none 0 0,.slice none 0 0] 39)) []).trans o5 (by simp)).below (by simp);have q5:=zab e5 (zab s5 q4);have m1:=(zaa q5 1).trans rfl;have n1:=(e5.cell (p:=⟨gb,off + 1,none⟩) hg5).trans k5) | (refine zbm rfl 9 9 _ _ rfl _ _ rfl rfl (by simp) ?_))
 have C5:=Below.chain (Below.chain C4 s5) e5
 go_ret
 exact ⟨by simp,C5⟩
set_option maxRecDepth 4000 in
theorem groups_b (n:Int) (b:Value) (m r:Nat) (ur:UInt8) (hm:n.tmod 60 = m) (hr:(m:Int).tmod 10 = r) (hr9:r < 10) (u48:(ur.toNat:Int) = 48 + (r:Int)) (h9:¬ 9 < (m:Int)) (ho1:1 ≤ (m:Int)) (ho2:(m:Int) ≤ 20) (V1:Hid ((pF ([103,114,111,117,112,32,97,32,101,118,101,114,121,32] ++ [ur] ++ [10])).2 = (0,0))) (V2:Hid ((pF ([103,114,111,117,112,32,97,32,101,118,101,114,121,32,48] ++ [ur] ++ [10])).2 = (0,12))) (VG:Hid (∃ g:Gr,(pF ([103,114,111,117,112,32,97,32,101,118,101,114,121,32] ++ [ur] ++ [10])).1.gs[0]? = some g ∧ g.ev = (m:Int))) (w:World) (he:Ev w) (het:Et w):Calls Tryz.prog 11 #[.int .u16 n,b] w fun e w'=>e = .returned (.bool true) ∧ Below w.heap.size w w':=by
 have hkn:=zol w he het
 have HE:Hid (Ev w):=he
 have HT:Hid (Et w):=het
 have h48:IntKind.i64.wrap (48 + (r:Int)) = 48 + (r:Int):=by rw [IntKind.wrap_i64];omega
 clear he het
 have hp1:=fun W=>zet ([103,114,111,117,112,32,97,32,101,118,101,114,121,32] ++ [ur] ++ [10]) W (by simp)
 have hp2:=fun W=>rof_any ([103,114,111,117,112,32,97,32,101,118,101,114,121,32,48] ++ [ur] ++ [10]) _ _ W (by simp) V2.out
 have hp3:=fun W=>rof_any [103,114,111,117,112,32,49,32,101,118,101,114,121,32,49,10] _ _ W (by simp) ((pX_eq _) ▸ g1)
 have hp4:=fun W=>rof_any [103,114,111,117,112,32,97,32,101,118,101,114,121,10] _ _ W (by simp) ((pX_eq _) ▸ g2)
 have hp5:=fun W=>rof_any [103,114,111,117,112,32,97,32,101,118,101,114,121,32,49,10,103,114,111,117,112,32,97,32,101,118,101,114,121,32,49,10] _ _ W (by simp) ((pX_eq _) ▸ g3)
 go_enter Tryz.func11,Tryz.ntmps11
 go_wp2_with fail
 refine hkn.mono ?_
 rintro e w1 ⟨rfl,b1⟩
 clear hkn
 go_wp2_with (first | (refine wp_mkB rfl _ rfl _ rfl ?_;intro w2 p2 d2) | (refine wp_bs rfl _ rfl w1.heap.size ur rfl (by rw [u48];exact p2) ?_) | (refine zbm rfl 9 9 _ _ rfl _ _ rfl rfl (by simp) ?_))
 have B2:=Below.chain b1 d2
 refine (hp1 _ (HE.out.later B2) (HT.out.later B2)).mono ?_
 rintro e v1a ⟨c1,rfl,cf,s1⟩
 rw [V1.out]
 have r1:=cf.row
 obtain ⟨g,hg,hev⟩:=VG.out
 obtain ⟨al,cl,gb,off,cg,rfl,k1,hgb⟩:=cf.grp hg
 have hgl:0 < (pF ([103,114,111,117,112,32,97,32,101,118,101,114,121,32] ++ [ur] ++ [10])).1.gs.length:=(List.getElem?_eq_some_iff.1 hg).1
 rw [hev] at k1
 generalize (pF ([103,114,111,117,112,32,97,32,101,118,101,114,121,32] ++ [ur] ++ [10])).1.gs.length = GL at *
 generalize (pF ([103,114,111,117,112,32,97,32,101,118,101,114,121,32] ++ [ur] ++ [10])).1.rl.length = RL at *
 clear hg hev
 clear hp1 cf
 go_wp2_with (first | (refine zad rfl 39 _ _ rfl v1a.heap.size _ rfl rfl _ 39 (zac v1a (.cells #[.slice none 0 0,.slice none 0 0] 39)) 2 rz39 rfl r1 ?_;intro v1b p1' o1 z1;have e1:=((Off.of (bal (Below.refl v1a.heap.size v1a) (.cells #[.slice none 0 0,.slice none 0 0] 39)) []).trans o1 (by simp)).below (by simp)) | (refine zbm rfl 9 9 _ _ rfl _ _ rfl rfl (by simp) ?_))
 have C1:=Below.chain (Below.chain B2 s1) e1
 have q1:=p1'
 have k1':=(e1.cell (p:=⟨gb,off + 1,none⟩) hgb).trans k1
 have hg1:gb < v1b.heap.size:=World.block_lt_of_cell? _ _ k1'
 refine (hp2 _ (HE.out.later C1) (HT.out.later C1)).mono ?_
 rintro e v2a ⟨c2,rfl,r2,s2⟩
 clear hp2
 go_wp2_with (first | (refine zad rfl 39 _ _ rfl v2a.heap.size c2 rfl rfl _ 39 (zac v2a (.cells #[.slice none 0 0,.slice none 0 0] 39)) 2 rz39 rfl r2 ?_;intro v2b p2' o2 z2;have e2:=((Off.of (bal (Below.refl v2a.heap.size v2a) (.cells #[.slice none 0 0,.slice none 0 0] 39)) []).trans o2 (by simp)).below (by simp)) | (refine zbm rfl 9 9 _ _ rfl _ _ rfl rfl (by simp) ?_))
 have C2:=Below.chain (Below.chain C1 s2) e2
 have q2:=zab e2 (zab s2 q1)
 have k2:=(e2.cell (p:=⟨gb,off + 1,none⟩) (World.block_lt_of_cell? _ _ ((s2.cell (p:=⟨gb,off + 1,none⟩) hg1).trans k1'))).trans ((s2.cell (p:=⟨gb,off + 1,none⟩) hg1).trans k1')
 have hg2:gb < v2b.heap.size:=World.block_lt_of_cell? _ _ k2
 refine (hp3 _ (HE.out.later C2) (HT.out.later C2)).mono ?_
 rintro e v3a ⟨c3,rfl,r3,s3⟩
 clear hp3
 go_wp2_with (first | (refine zad rfl 39 _ _ rfl v3a.heap.size c3 rfl rfl _ 39 (zac v3a (.cells #[.slice none 0 0,.slice none 0 0] 39)) 2 rz39 rfl r3 ?_;intro v3b p3' o3 z3;have e3:=((Off.of (bal (Below.refl v3a.heap.size v3a) (.cells #[.slice none 0 0,.slice none 0 0] 39)) []).trans o3 (by simp)).below (by simp)) | (refine zbm rfl 9 9 _ _ rfl _ _ rfl rfl (by simp) ?_))
 have C3:=Below.chain (Below.chain C2 s3) e3
 have q3:=zab e3 (zab s3 q2)
 have k3:=(e3.cell (p:=⟨gb,off + 1,none⟩) (World.block_lt_of_cell? _ _ ((s3.cell (p:=⟨gb,off + 1,none⟩) hg2).trans k2))).trans ((s3.cell (p:=⟨gb,off + 1,none⟩) hg2).trans k2)
 have hg3:gb < v3b.heap.size:=World.block_lt_of_cell? _ _ k3
 refine (hp4 _ (HE.out.later C3) (HT.out.later C3)).mono ?_
 rintro e v4a ⟨c4,rfl,r4,s4⟩
 clear hp4
 go_wp2_with (first | (refine zad rfl 39 _ _ rfl v4a.heap.size c4 rfl rfl _ 39 (zac v4a (.cells #[.slice none 0 0,.slice none 0 0] 39)) 2 rz39 rfl r4 ?_;intro v4b p4' o4 z4;have e4:=((Off.of (bal (Below.refl v4a.heap.size v4a) (.cells #[.slice none 0 0,.slice none 0 0] 39)) []).trans o4 (by simp)).below (by simp)) | (refine zbm rfl 9 9 _ _ rfl _ _ rfl rfl (by simp) ?_))
 have C4:=Below.chain (Below.chain C3 s4) e4
 have q4:=zab e4 (zab s4 q3)
 have k4:=(e4.cell (p:=⟨gb,off + 1,none⟩) (World.block_lt_of_cell? _ _ ((s4.cell (p:=⟨gb,off + 1,none⟩) hg3).trans k3))).trans ((s4.cell (p:=⟨gb,off + 1,none⟩) hg3).trans k3)
 have hg4:gb < v4b.heap.size:=World.block_lt_of_cell? _ _ k4
 refine (hp5 _ (HE.out.later C4) (HT.out.later C4)).mono ?_
 rintro e v5a ⟨c5,rfl,r5,s5⟩
 clear hp5
 have k5:=(s5.cell (p:=⟨gb,off + 1,none⟩) hg4).trans k4
 have hg5:gb < v5a.heap.size:=World.block_lt_of_cell? _ _ k5
 go_wp2_with (first | go_skip | go_guarded | (refine zad rfl 39 _ _ rfl v5a.heap.size c5 rfl rfl _ 39 (zac v5a (.cells #[.slice none 0 0,.slice none 0 0] 39)) 2 rz39 rfl r5 ?_;intro v5b p5' o5 z5;have e5:=((Off.of (bal (Below.refl v5a.heap.size v5a) (.cells #[.slice none 0 0,.slice none 0 0] 39)) []).trans o5 (by simp)).below (by simp);have q5:=zab e5 (zab s5 q4);have m1:=(zaa q5 1).trans rfl;have n1:=(e5.cell (p:=⟨gb,off + 1,none⟩) hg5).trans k5) | (refine zbm rfl 9 9 _ _ rfl _ _ rfl rfl (by simp) ?_))
 have C5:=Below.chain (Below.chain C4 s5) e5
 go_ret
 exact ⟨by simp,C5⟩
set_option maxRecDepth 4000 in
theorem groups_a (n:Int) (b:Value) (ur:UInt8) (hm:n.tmod 60 = 0) (u48:(ur.toNat:Int) = 48) (V1:Hid ((pF ([103,114,111,117,112,32,97,32,101,118,101,114,121,32] ++ [ur] ++ [10])).2 = (0,12))) (V2:Hid ((pF ([103,114,111,117,112,32,97,32,101,118,101,114,121,32,48] ++ [ur] ++ [10])).2 = (0,12))) (w:World) (he:Ev w) (het:Et w):Calls Tryz.prog 11 #[.int .u16 n,b] w fun e w'=>e = .returned (.bool true) ∧ Below w.heap.size w w':=by
 have hkn:=zol w he het
 have HE:Hid (Ev w):=he
 have HT:Hid (Et w):=het
 clear he het
 have hp1:=fun W=>zet ([103,114,111,117,112,32,97,32,101,118,101,114,121,32] ++ [ur] ++ [10]) W (by simp)
 have hp2:=fun W=>rof_any ([103,114,111,117,112,32,97,32,101,118,101,114,121,32,48] ++ [ur] ++ [10]) _ _ W (by simp) V2.out
 have hp3:=fun W=>rof_any [103,114,111,117,112,32,49,32,101,118,101,114,121,32,49,10] _ _ W (by simp) ((pX_eq _) ▸ g1)
 have hp4:=fun W=>rof_any [103,114,111,117,112,32,97,32,101,118,101,114,121,10] _ _ W (by simp) ((pX_eq _) ▸ g2)
 have hp5:=fun W=>rof_any [103,114,111,117,112,32,97,32,101,118,101,114,121,32,49,10,103,114,111,117,112,32,97,32,101,118,101,114,121,32,49,10] _ _ W (by simp) ((pX_eq _) ▸ g3)
 go_enter Tryz.func11,Tryz.ntmps11
 go_wp2_with fail
 refine hkn.mono ?_
 rintro e w1 ⟨rfl,b1⟩
 clear hkn
 go_wp2_with (first | (refine wp_mkB rfl _ rfl _ rfl ?_;intro w2 p2 d2) | (refine wp_bs rfl _ rfl w1.heap.size ur rfl (by rw [u48];exact p2) ?_) | (refine zbm rfl 9 9 _ _ rfl _ _ rfl rfl (by simp) ?_))
 have B2:=Below.chain b1 d2
 refine (hp1 _ (HE.out.later B2) (HT.out.later B2)).mono ?_
 rintro e v1a ⟨c1,rfl,cf,s1⟩
 rw [V1.out]
 have r1:=cf.row
 clear hp1 cf
 go_wp2_with (first | (refine zad rfl 39 _ _ rfl v1a.heap.size c1 rfl rfl _ 39 (zac v1a (.cells #[.slice none 0 0,.slice none 0 0] 39)) 2 rz39 rfl r1 ?_;intro v1b p1' o1 z1;have e1:=((Off.of (bal (Below.refl v1a.heap.size v1a) (.cells #[.slice none 0 0,.slice none 0 0] 39)) []).trans o1 (by simp)).below (by simp)) | (refine zbm rfl 9 9 _ _ rfl _ _ rfl rfl (by simp) ?_))
 have C1:=Below.chain (Below.chain B2 s1) e1
 refine (hp2 _ (HE.out.later C1) (HT.out.later C1)).mono ?_
 rintro e v2a ⟨c2,rfl,r2,s2⟩
 clear hp2
 go_wp2_with (first | (refine zad rfl 39 _ _ rfl v2a.heap.size c2 rfl rfl _ 39 (zac v2a (.cells #[.slice none 0 0,.slice none 0 0] 39)) 2 rz39 rfl r2 ?_;intro v2b p2' o2 z2;have e2:=((Off.of (bal (Below.refl v2a.heap.size v2a) (.cells #[.slice none 0 0,.slice none 0 0] 39)) []).trans o2 (by simp)).below (by simp)) | (refine zbm rfl 9 9 _ _ rfl _ _ rfl rfl (by simp) ?_))
 have C2:=Below.chain (Below.chain C1 s2) e2
 refine (hp3 _ (HE.out.later C2) (HT.out.later C2)).mono ?_
 rintro e v3a ⟨c3,rfl,r3,s3⟩
 clear hp3
 go_wp2_with (first | (refine zad rfl 39 _ _ rfl v3a.heap.size c3 rfl rfl _ 39 (zac v3a (.cells #[.slice none 0 0,.slice none 0 0] 39)) 2 rz39 rfl r3 ?_;intro v3b p3' o3 z3;have e3:=((Off.of (bal (Below.refl v3a.heap.size v3a) (.cells #[.slice none 0 0,.slice none 0 0] 39)) []).trans o3 (by simp)).below (by simp)) | (refine zbm rfl 9 9 _ _ rfl _ _ rfl rfl (by simp) ?_))
 have C3:=Below.chain (Below.chain C2 s3) e3
 refine (hp4 _ (HE.out.later C3) (HT.out.later C3)).mono ?_
 rintro e v4a ⟨c4,rfl,r4,s4⟩
 clear hp4
 go_wp2_with (first | (refine zad rfl 39 _ _ rfl v4a.heap.size c4 rfl rfl _ 39 (zac v4a (.cells #[.slice none 0 0,.slice none 0 0] 39)) 2 rz39 rfl r4 ?_;intro v4b p4' o4 z4;have e4:=((Off.of (bal (Below.refl v4a.heap.size v4a) (.cells #[.slice none 0 0,.slice none 0 0] 39)) []).trans o4 (by simp)).below (by simp)) | (refine zbm rfl 9 9 _ _ rfl _ _ rfl rfl (by simp) ?_))
 have C4:=Below.chain (Below.chain C3 s4) e4
 refine (hp5 _ (HE.out.later C4) (HT.out.later C4)).mono ?_
 rintro e v5a ⟨c5,rfl,r5,s5⟩
 clear hp5
 go_wp2_with (first | go_skip | go_guarded | (refine zad rfl 39 _ _ rfl v5a.heap.size c5 rfl rfl _ 39 (zac v5a (.cells #[.slice none 0 0,.slice none 0 0] 39)) 2 rz39 rfl r5 ?_;intro v5b p5' o5 z5;have e5:=((Off.of (bal (Below.refl v5a.heap.size v5a) (.cells #[.slice none 0 0,.slice none 0 0] 39)) []).trans o5 (by simp)).below (by simp)) | (refine zbm rfl 9 9 _ _ rfl _ _ rfl rfl (by simp) ?_))
 have C5:=Below.chain (Below.chain C4 s5) e5
 go_ret
 exact ⟨by simp,C5⟩
set_option maxRecDepth 4000 in
theorem groups_d (n:Int) (b:Value) (m q r:Nat) (uq ur:UInt8) (hm:n.tmod 60 = m) (hq:(m:Int).tdiv 10 = q) (hr:(m:Int).tmod 10 = r) (hr9:r < 10) (hq5:q < 6) (u48:(ur.toNat:Int) = 48 + (r:Int)) (u49:(uq.toNat:Int) = 48 + (q:Int)) (h9:9 < (m:Int)) (hm6:(m:Int) < 60) (ho1:1 ≤ (m:Int)) (ho:¬ (m:Int) ≤ 20) (V1:Hid ((pF ([103,114,111,117,112,32,97,32,101,118,101,114,121,32] ++ [uq,ur] ++ [10])).2 = (0,12))) (V2:Hid ((pF ([103,114,111,117,112,32,97,32,101,118,101,114,121,32,48] ++ [uq,ur] ++ [10])).2 = (0,12))) (w:World) (he:Ev w) (het:Et w):Calls Tryz.prog 11 #[.int .u16 n,b] w fun e w'=>e = .returned (.bool true) ∧ Below w.heap.size w w':=by
 have hkn:=zol w he het
 have HE:Hid (Ev w):=he
 have HT:Hid (Et w):=het
 have h48:IntKind.i64.wrap (48 + (r:Int)) = 48 + (r:Int):=by rw [IntKind.wrap_i64];omega
 have h49:IntKind.i64.wrap (48 + (q:Int)) = 48 + (q:Int):=by rw [IntKind.wrap_i64];omega
 clear he het
 have hp1:=fun W=>zet ([103,114,111,117,112,32,97,32,101,118,101,114,121,32] ++ [uq,ur] ++ [10]) W (by simp)
 have hp2:=fun W=>rof_any ([103,114,111,117,112,32,97,32,101,118,101,114,121,32,48] ++ [uq,ur] ++ [10]) _ _ W (by simp) V2.out
 have hp3:=fun W=>rof_any [103,114,111,117,112,32,49,32,101,118,101,114,121,32,49,10] _ _ W (by simp) ((pX_eq _) ▸ g1)
 have hp4:=fun W=>rof_any [103,114,111,117,112,32,97,32,101,118,101,114,121,10] _ _ W (by simp) ((pX_eq _) ▸ g2)
 have hp5:=fun W=>rof_any [103,114,111,117,112,32,97,32,101,118,101,114,121,32,49,10,103,114,111,117,112,32,97,32,101,118,101,114,121,32,49,10] _ _ W (by simp) ((pX_eq _) ▸ g3)
 go_enter Tryz.func11,Tryz.ntmps11
 go_wp2_with fail
 refine hkn.mono ?_
 rintro e w1 ⟨rfl,b1⟩
 clear hkn
 go_wp2_with (first | (refine wp_bs rfl _ rfl w2.heap.size uq rfl (by rw [u49];exact p3) ?_) | (refine wp_bs rfl _ rfl w1.heap.size ur rfl (by rw [u48];exact p2) ?_) | (refine wp_mkB (w:=w1) rfl _ rfl _ rfl ?_;intro w2 p2 d2) | (refine wp_mkB rfl _ rfl _ rfl ?_;intro w3 p3 d3) | (refine zbm rfl 9 9 _ _ rfl _ _ rfl rfl (by simp) ?_))
 have B2:=Below.chain (Below.chain b1 d2) d3
 refine (hp1 _ (HE.out.later B2) (HT.out.later B2)).mono ?_
 rintro e v1a ⟨c1,rfl,cf,s1⟩
 rw [V1.out]
 have r1:=cf.row
 clear hp1 cf
 go_wp2_with (first | (refine zad rfl 39 _ _ rfl v1a.heap.size c1 rfl rfl _ 39 (zac v1a (.cells #[.slice none 0 0,.slice none 0 0] 39)) 2 rz39 rfl r1 ?_;intro v1b p1' o1 z1;have e1:=((Off.of (bal (Below.refl v1a.heap.size v1a) (.cells #[.slice none 0 0,.slice none 0 0] 39)) []).trans o1 (by simp)).below (by simp)) | (refine zbm rfl 9 9 _ _ rfl _ _ rfl rfl (by simp) ?_))
 have C1:=Below.chain (Below.chain B2 s1) e1
 refine (hp2 _ (HE.out.later C1) (HT.out.later C1)).mono ?_
 rintro e v2a ⟨c2,rfl,r2,s2⟩
 clear hp2
 go_wp2_with (first | (refine zad rfl 39 _ _ rfl v2a.heap.size c2 rfl rfl _ 39 (zac v2a (.cells #[.slice none 0 0,.slice none 0 0] 39)) 2 rz39 rfl r2 ?_;intro v2b p2' o2 z2;have e2:=((Off.of (bal (Below.refl v2a.heap.size v2a) (.cells #[.slice none 0 0,.slice none 0 0] 39)) []).trans o2 (by simp)).below (by simp)) | (refine zbm rfl 9 9 _ _ rfl _ _ rfl rfl (by simp) ?_))
 have C2:=Below.chain (Below.chain C1 s2) e2
 refine (hp3 _ (HE.out.later C2) (HT.out.later C2)).mono ?_
 rintro e v3a ⟨c3,rfl,r3,s3⟩
 clear hp3
 go_wp2_with (first | (refine zad rfl 39 _ _ rfl v3a.heap.size c3 rfl rfl _ 39 (zac v3a (.cells #[.slice none 0 0,.slice none 0 0] 39)) 2 rz39 rfl r3 ?_;intro v3b p3' o3 z3;have e3:=((Off.of (bal (Below.refl v3a.heap.size v3a) (.cells #[.slice none 0 0,.slice none 0 0] 39)) []).trans o3 (by simp)).below (by simp)) | (refine zbm rfl 9 9 _ _ rfl _ _ rfl rfl (by simp) ?_))
 have C3:=Below.chain (Below.chain C2 s3) e3
 refine (hp4 _ (HE.out.later C3) (HT.out.later C3)).mono ?_
 rintro e v4a ⟨c4,rfl,r4,s4⟩
 clear hp4
 go_wp2_with (first | (refine zad rfl 39 _ _ rfl v4a.heap.size c4 rfl rfl _ 39 (zac v4a (.cells #[.slice none 0 0,.slice none 0 0] 39)) 2 rz39 rfl r4 ?_;intro v4b p4' o4 z4;have e4:=((Off.of (bal (Below.refl v4a.heap.size v4a) (.cells #[.slice none 0 0,.slice none 0 0] 39)) []).trans o4 (by simp)).below (by simp)) | (refine zbm rfl 9 9 _ _ rfl _ _ rfl rfl (by simp) ?_))
 have C4:=Below.chain (Below.chain C3 s4) e4
 refine (hp5 _ (HE.out.later C4) (HT.out.later C4)).mono ?_
 rintro e v5a ⟨c5,rfl,r5,s5⟩
 clear hp5
 go_wp2_with (first | go_skip | go_guarded | (refine zad rfl 39 _ _ rfl v5a.heap.size c5 rfl rfl _ 39 (zac v5a (.cells #[.slice none 0 0,.slice none 0 0] 39)) 2 rz39 rfl r5 ?_;intro v5b p5' o5 z5;have e5:=((Off.of (bal (Below.refl v5a.heap.size v5a) (.cells #[.slice none 0 0,.slice none 0 0] 39)) []).trans o5 (by simp)).below (by simp)) | (refine zbm rfl 9 9 _ _ rfl _ _ rfl rfl (by simp) ?_))
 have C5:=Below.chain (Below.chain C4 s5) e5
 go_ret
 exact ⟨by simp,C5⟩
theorem u8_48 {k:Nat} (h:k < 10):((UInt8.ofNat (48 + k)).toNat:Int) = 48 + (k:Int):=by
 simp
 omega
theorem groups_any (n:Int) (b:Value) (hn:0 ≤ n) (w:World) (he:Ev w) (het:Et w):Calls Tryz.prog 11 #[.int .u16 n,b] w fun e w'=>e = .returned (.bool true) ∧ Below w.heap.size w w':=by
 have h1:0 ≤ n.tmod 60:=Int.tmod_nonneg _ hn
 have h2:n.tmod 60 < 60:=Int.tmod_lt_of_pos _ (by decide)
 obtain ⟨m,hm⟩:∃ m:Nat,n.tmod 60 = m:=⟨(n.tmod 60).toNat,by omega⟩
 have hm60:m < 60:=by omega
 have V:=List.all_eq_true.1 dg_all m (List.mem_range.2 hm60)
 simp only [Bool.and_eq_true,decide_eq_true_eq,pX_eq] at V
 obtain ⟨⟨V1,V2⟩,V3⟩:=V
 have hq:(m:Int).tdiv 10 = (m / 10:Nat):=rfl
 have hr:(m:Int).tmod 10 = (m % 10:Nat):=rfl
 have hr9:m % 10 < 10:=Nat.mod_lt _ (by decide)
 have hq5:m / 10 < 6:=by omega
 have VG:∀ l:Str,(pF l).1.gs.map Gr.ev = [(m:Int)] → Hid (∃ g:Gr,(pF l).1.gs[0]? = some g ∧ g.ev = (m:Int)):=fun l h=>by
  cases hg:(pF l).1.gs with
  | nil=>rw [hg] at h;simp at h
  | cons g gs=>
   rw [hg] at h
   simp at h
   exact ⟨g,by simp,h.1⟩
 by_cases h9:m > 9
 ·
  have e:dg m = [UInt8.ofNat (48 + m / 10),UInt8.ofNat (48 + m % 10)]:=by unfold dg;rw [if_pos h9]
  rw [e] at V1 V2 V3
  by_cases h20:m ≤ 20
  ·
   have hk:1 ≤ m ∧ m ≤ 20:=⟨by omega,h20⟩
   rw [if_pos hk] at V1 V3
   exact groups_c n b m _ _ _ _ hm hq hr hr9 hq5 (u8_48 hr9) (u8_48 (by omega)) (by omega) (by omega) (by omega) V1 V2 (VG _ V3) w he het
  ·
   have hk:¬ (1 ≤ m ∧ m ≤ 20):=fun h=>h20 h.2
   rw [if_neg hk] at V1 V3
   exact groups_d n b m _ _ _ _ hm hq hr hr9 hq5 (u8_48 hr9) (u8_48 (by omega)) (by omega) (by omega) (by omega) (by omega) V1 V2 w he het
 ·
  have e:dg m = [UInt8.ofNat (48 + m % 10)]:=by unfold dg;rw [if_neg h9]
  rw [e] at V1 V2 V3
  by_cases h0:1 ≤ m
  ·
   have hk:1 ≤ m ∧ m ≤ 20:=⟨h0,by omega⟩
   rw [if_pos hk] at V1 V3
   exact groups_b n b m _ _ hm hr hr9 (u8_48 hr9) (by omega) (by omega) (by omega) V1 V2 (VG _ V3) w he het
  ·
   have hk:¬ (1 ≤ m ∧ m ≤ 20):=fun h=>h0 h.1
   rw [if_neg hk] at V1 V3
   obtain rfl:m = 0:=by omega
   exact groups_a n b _ hm (u8_48 hr9) V1 V2 w he het
theorem groups_row (n:Nat) (b:Bool) (w:World) (_hn:n ≤ 65535) (he:Ev w ∧ Et w):Calls Tryz.prog 11 #[.int .u16 n,.bool b] w fun e w'=>e = .returned (.bool true) ∧ Below w.heap.size w w':=groups_any n _ (by omega) w he.1 he.2
end Go.Proofs.YtjlaihekocjggaaGreatDoor
