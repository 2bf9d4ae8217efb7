/- Texts that the others lean on. -/
import Derived.Test.YtjlaihekocjggaaGreatDoorKRRec
import Derived.Test.YtjlaihekocjggaaGreatDoorKRGrp2
set_option maxHeartbeats 16000000
namespace Go.Proofs.YtjlaihekocjggaaGreatDoor
open Go.RowKit
theorem own_kept {w w':World} {X:List Nat} {base:Nat} {v:Value} {l:List Pr} (h:Lb.Own w base v l) (ho:Off X w w') (hX:∀ x ∈ X,x < base):Lb.Own w' base v l:=
 zal h ho (fun x hx e=>by have:=(zan h x e).1;have:=hX x hx;omega)
set_option maxRecDepth 20000 in
theorem zdk {P:Nat → Prop} (ao:Option Addr) (n c:Nat) (l:List Pr) (e:Ex) (ce:Array Value) (w:World) (hn:n ≤ 1000000) (h:Lb.Ps w ao n l) (ht:TrP P w e ce) :
  Calls Tryz.prog 171 #[.slice ao n c,.agg ce] w fun x w'=>∃ vs,x = .returned (.agg (ruA ⟨fGet l nm,e,fWithout l []⟩ ce vs)) ∧ Lb.Own w' w.heap.size vs (fWithout l []) ∧ Below w.heap.size w w':=by
 have hrow:=ht.row
 rw [zfm] at ht
 obtain ⟨vm,vn,vk,kss,ec,⟨a1,n1,rfl,_⟩,⟨a2,n2,rfl,_⟩,⟨a3,n3,rfl,_⟩,_⟩:=ht
 have hw:∀ W x,(∃ vs,x = Ending.returned (.agg (ruA ⟨fGet l nm,e,fWithout l []⟩ ce vs)) ∧ Lb.Own W w.heap.size vs (fWithout l []) ∧ Below w.heap.size w W) ↔ (∃ vs,x = Ending.returned (.agg (#[tx (fGet l nm)] ++ ce ++ #[vs])) ∧ Lb.Own W w.heap.size vs (fWithout l []) ∧ Below w.heap.size w W):=fun _ _=>Iff.rfl
 simp only [hw]
 clear hw
 generalize e.k = ek at *
 generalize e.p = ep at *
 generalize e.o = eo at *
 generalize e.v = ev at *
 generalize e.s = es at *
 generalize e.m.length = em at *
 generalize e.r = er at *
 generalize e.b1 = e1 at *
 generalize e.b2 = e2 at *
 generalize e.b3 = e3 at *
 generalize e.b4 = e4 at *
 generalize e.ns.length = en at *
 generalize e.ks.length = el at *
 subst ec
 have hg:=fun W (k:Lb.Ps W ao n l)=>Lb.get_any ao n c l nm W (by omega) k
 have hwo:=fun W (k:Lb.Ps W ao n l)=>Lb.without_any ao n c l none 0 0 [] W hn (by omega) k (Ss.nil _ _)
 have qa:=zac w (.cells (exA ek ep eo ev es (.slice a1 em n1) er e1 e2 e3 e4 (.slice a2 en n2) (.slice a3 el n3)) 28)
 have Ba:=bal (Below.refl w.heap.size w) (.cells (exA ek ep eo ev es (.slice a1 em n1) er e1 e2 e3 e4 (.slice a2 en n2) (.slice a3 el n3)) 28)
 have qb:=zac (w.alloc (.cells (exA ek ep eo ev es (.slice a1 em n1) er e1 e2 e3 e4 (.slice a2 en n2) (.slice a3 el n3)) 28)) (.cells #[.string ⟨#[]⟩,.int .i64 0,.int .i64 0,.bool false,.int .i64 0,.string ⟨#[]⟩,.slice none 0 0,.int .i64 0,.bool false,.bool false,.bool false,.bool false,.slice none 0 0,.slice none 0 0,.slice none 0 0] 65)
 have Bb:=Below.chain Ba (bal (Below.refl _ (w.alloc (.cells (exA ek ep eo ev es (.slice a1 em n1) er e1 e2 e3 e4 (.slice a2 en n2) (.slice a3 el n3)) 28))) (.cells #[.string ⟨#[]⟩,.int .i64 0,.int .i64 0,.bool false,.int .i64 0,.string ⟨#[]⟩,.slice none 0 0,.int .i64 0,.bool false,.bool false,.bool false,.bool false,.slice none 0 0,.slice none 0 0,.slice none 0 0] 65))
 have qa:=zat qa (.cells #[.string ⟨#[]⟩,.int .i64 0,.int .i64 0,.bool false,.int .i64 0,.string ⟨#[]⟩,.slice none 0 0,.int .i64 0,.bool false,.bool false,.bool false,.bool false,.slice none 0 0,.slice none 0 0,.slice none 0 0] 65)
 have zs:(w.alloc (.cells (exA ek ep eo ev es (.slice a1 em n1) er e1 e2 e3 e4 (.slice a2 en n2) (.slice a3 el n3)) 28)).heap.size = w.heap.size + 1:=by simp
 rw [zs] at qb
 have h0:=h.later Bb
 generalize fGet l nm = rc at *
 generalize fWithout l [] = st at *
 clear h
 go_enter Tryz.func171,Tryz.ntmps171
 go_upto_region 1 with fail
 generalize (w.alloc (.cells (exA ek ep eo ev es (.slice a1 em n1) er e1 e2 e3 e4 (.slice a2 en n2) (.slice a3 el n3)) 28)).alloc (.cells #[.string ⟨#[]⟩,.int .i64 0,.int .i64 0,.bool false,.int .i64 0,.string ⟨#[]⟩,.slice none 0 0,.int .i64 0,.bool false,.bool false,.bool false,.bool false,.slice none 0 0,.slice none 0 0,.slice none 0 0] 65) = w0 at *
 have qa1:=zab (zag w0) qa
 have qb1:=zab (zag w0) qb
 have B1:=Below.chain Bb (zag w0)
 have h1:=h0.later (zag w0)
 refine wp_region_noPanic ?_
 refine wp_region_held_drew (S:=fun W=>W.heap[w.heap.size]? = some (.cells (exA ek ep eo ev es (.slice a1 em n1) er e1 e2 e3 e4 (.slice a2 en n2) (.slice a3 el n3)) 28)) (by kernel_rfl) ?_ (fun _=>?_)
 ·
  exact qa1
 generalize w0.drew = wd at *
 refine tk 0 5 (.slice ao n c) rfl (fun W hSw=>by go_simp) qa1 ?_
 simp only [Act.put,pB,pC,pD]
 refine tk 2 7 (.agg (exA ek ep eo ev es (.slice a1 em n1) er e1 e2 e3 e4 (.slice a2 en n2) (.slice a3 el n3))) rfl (fun W hSw=>by exact zar 28 _ rfl w.heap.size (exA ek ep eo ev es (.slice a1 em n1) er e1 e2 e3 e4 (.slice a2 en n2) (.slice a3 el n3)) 28 rfl W hSw _ Tryz.underlying28 rfl 13 zae rfl) qa1 ?_
 simp only [Act.put,pB,pC,pD]
 refine tk 3 8 (.slice ao n c) rfl (fun W hSw=>by go_simp) qa1 ?_
 simp only [Act.put,pB,pC,pD]
 refine wpAnyH_ready (rs:=[1]) (by kernel_rfl) (by simp) ?_
 refine aR rfl fun K hK=>?_
 go_simp
 refine (hg _ h1).mono ?_
 rintro x w2 ⟨rfl,b2⟩
 have qa2:=zab b2 qa1
 have qb2:=zab b2 qb1
 have B2:=Below.chain B1 b2
 have h2:=h1.later b2
 refine hK.out _ _ ?_ (fun _=>?_)
 ·
  exact qa2
 clear hK K
 refine wpAnyH_ready (rs:=[4]) (by kernel_rfl) (by simp) ?_
 refine aR rfl fun K hK=>?_
 go_simp
 refine (hwo _ h2).mono ?_
 rintro x w3 ⟨vs,rfl,own,b3⟩
 obtain ⟨sa,sc,rfl,_⟩:=own.fitN
 have qa3:=zab b3 qa2
 have qb3:=zab b3 qb2
 have B3:=Below.chain B2 b3
 refine hK.out _ _ ?_ (fun _=>?_)
 ·
  exact qa3
 clear hK K
 refine tk 5 10 (.agg #[tx rc,.int .i64 ek,.int .i64 ep,.bool eo,.int .i64 ev,tx es,.slice a1 em n1,.int .i64 er,.bool e1,.bool e2,.bool e3,.bool e4,.slice a2 en n2,.slice a3 el n3,.slice sa st.length sc]) rfl (fun W hSw=>by go_simp) qa3 ?_
 simp only [Act.put,pB,pC,pD]
 refine wpAnyH_ready (rs:=[6]) (by kernel_rfl) (by simp) ?_
 refine aR rfl fun K hK=>?_
 refine zbw 65 _ _ none rfl rfl (by rfl) (w.heap.size + 1) #[tx rc,.int .i64 ek,.int .i64 ep,.bool eo,.int .i64 ev,tx es,.slice a1 em n1,.int .i64 er,.bool e1,.bool e2,.bool e3,.bool e4,.slice a2 en n2,.slice a3 el n3,.slice sa st.length sc] rfl rfl _ 65 qb3 15 rz65 rfl ⟨rfl,rfl⟩ ?_
 intro w4 q4 o4 z4
 have qa4:=o4.heap qa3 (by simp)
 have B4:=((Off.of B3 []).trans o4 (by simp)).below (by simp)
 refine hK.out _ _ ?_ (fun _=>?_)
 ·
  exact qa4
 clear hK K
 refine wpAnyH_done (by kernel_rfl) ?_ _
 refine NoPanic.normal ?_
 go_wp2_with fail
 exact bodyPost_ret (zak Tryz.results171 _ _ (w.heap.size + 1) 65 #[tx rc,.int .i64 ek,.int .i64 ep,.bool eo,.int .i64 ev,tx es,.slice a1 em n1,.int .i64 er,.bool e1,.bool e2,.bool e3,.bool e4,.slice a2 en n2,.slice a3 el n3,.slice sa st.length sc] _ rfl q4 Tryz.underlying65 rfl 15 rz65 rfl) rfl ⟨_,rfl,Lb.Own.base (b':=w2.heap.size) (own_kept own o4 (by have:=zah qb2;simp;omega)) (by have:=B2.size;omega),B4⟩
theorem info65:(Tryz.prog.info? 65).map (fun i=>(i.zero,i.size,i.bytes)) = some (some (.agg #[.string ⟨#[]⟩,.int .i64 0,.int .i64 0,.bool false,.int .i64 0,.string ⟨#[]⟩,.slice none 0 0,.int .i64 0,.bool false,.bool false,.bool false,.bool false,.slice none 0 0,.slice none 0 0,.slice none 0 0]),15,176):=by kernel_rfl
theorem zjt:∃ i,Tryz.prog.info? 65 = some i ∧ i.zero = some (.agg #[.string ⟨#[]⟩,.int .i64 0,.int .i64 0,.bool false,.int .i64 0,.string ⟨#[]⟩,.slice none 0 0,.int .i64 0,.bool false,.bool false,.bool false,.bool false,.slice none 0 0,.slice none 0 0,.slice none 0 0]) ∧ i.size = 15 ∧ i.bytes = 176:=by
 have h:=info65
 cases hi:Tryz.prog.info? 65 with
 | none=>rw [hi] at h;cases h
 | some i=>
  rw [hi] at h
  simp only [Option.map_some,Option.some.injEq,Prod.mk.injEq] at h
  exact ⟨i,rfl,h.1,h.2.1,h.2.2⟩
theorem rz60:(Tryz.prog.info? 60).map (·.size) = some 1:=by kernel_rfl
end Go.Proofs.YtjlaihekocjggaaGreatDoor
