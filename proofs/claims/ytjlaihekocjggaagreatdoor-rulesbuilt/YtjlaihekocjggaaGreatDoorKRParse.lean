/- Texts that the others lean on. -/
import Derived.Test.YtjlaihekocjggaaGreatDoorKQRConf
set_option maxHeartbeats 16000000
namespace Go.Proofs.YtjlaihekocjggaaGreatDoor
open Go.RowKit
theorem znw (c:UInt8) (s:Str) (w:World) (hs:s.length ≤ 1000000) (hm:Mx w) :
  Calls Tryz.prog 50 #[tx s,tx [c]] w fun e w'=>e = .returned (.slice (some ⟨w.heap.size,0,none⟩) (sp c s).length (sp c s).length) ∧ w'.heap[w.heap.size]? = some (.cells ((sp c s).map tx).toArray 9) ∧ Below w.heap.size w w':=by
 obtain ⟨m,hm⟩:=hm
 refine (Tryz.ex_strings_Split ⟨s.toArray⟩ ⟨[c].toArray⟩ m w (by rw [zau];omega) hm (by rw [zau];simp)).mono ?_
 rintro e w' ⟨rfl,rfl⟩
 have hd:=Lib.splitB_data ⟨[c].toArray⟩ 0 (Lib.countB ⟨s.toArray⟩ ⟨[c].toArray⟩) ⟨s.toArray⟩
 have hsp:Lib.splitK [c] 0 (Lib.count s [c]) s = sp c s:=zmj c _ s rfl
 have hd:(Lib.splitB ⟨[c].toArray⟩ 0 (Lib.countB ⟨s.toArray⟩ ⟨[c].toArray⟩) ⟨s.toArray⟩).map (·.data.toList) = sp c s:=hd.trans hsp
 have hlen:=Lib.splitB_all ⟨[c].toArray⟩ (by rw [zau];simp) 0 _ ⟨s.toArray⟩ rfl
 generalize Lib.splitB ⟨[c].toArray⟩ 0 (Lib.countB ⟨s.toArray⟩ ⟨[c].toArray⟩) ⟨s.toArray⟩ = L at *
 have hl:(sp c s).length = L.length:=by rw [← hd];simp
 have hn:Lib.countB ⟨s.toArray⟩ ⟨[c].toArray⟩ + 1 = (sp c s).length:=by rw [hl];exact hlen.symm
 rw [hn]
 refine ⟨rfl,?_,bal (Below.refl _ _) _⟩
 have e:(sp c s).map tx = L.map Value.string:=by
  rw [← hd,List.map_map]
  apply List.map_congr_left
  intro x _
  rfl
 rw [e]
 exact zac _ _
theorem stC_err {c:Cf} {l:Str} {x:Int × Int} (e:stC c l = .inr x):x.2 ≠ 0:=by
 unfold stC at e
 split at e
 ·
  cases e
 split at e
 ·
  unfold stG at e
  split at e
  ·
   cases e;decide
  split at e
  ·
   cases e;decide
  split at e
  ·
   cases e;decide
  cases e
 split at e
 ·
  unfold stR at e
  split at e
  ·
   split at e
   ·
    cases e;decide
   split at e
   ·
    cases e;decide
   split at e
   ·
    cases e
   next h=>cases e;exact h
  cases e;decide
 unfold stL at e
 split at e
 ·
  split at e
  ·
   split at e
   ·
    cases e;decide
   cases e
  cases e;decide
 cases e;decide
theorem off1 {a b:Nat} (h:a < b):∀ x ∈ [a],¬ b ≤ x:=fun x hx=>by
 have hx':x = a:=by simpa using hx
 omega
theorem CfP.zero (P:Nat → Prop) (w:World):CfP P w cf0 #[.slice none 0 0,.slice none 0 0]:=⟨_,_,rfl,Sl.nil _ _ _,[],rfl,Sl.nil _ _ _,fun i g hi=>by simp [cf0] at hi⟩
theorem RsP.mono {P P':Nat → Prop} {w:World} {v:Value} {l:List Ru} (h:RsP P w v l) (hP:∀ x,P x → P' x):RsP P' w v l:=by
 obtain ⟨rss,a,b,c⟩:=h
 exact ⟨rss,a.mono hP,b,fun k r hk=>by obtain ⟨cs,d,e⟩:=c k r hk;exact ⟨cs,d,e.mono hP⟩⟩
theorem RsP.off {P:Nat → Prop} {X:List Nat} {w w':World} {v:Value} {l:List Ru} (h:RsP P w v l) (o:Off X w w') (hX:∀ x ∈ X,¬ P x):RsP P w' v l:=by
 obtain ⟨rss,a,b,c⟩:=h
 exact ⟨rss,a.off o hX,b,fun k r hk=>by obtain ⟨cs,d,e⟩:=c k r hk;exact ⟨cs,d,e.off o hX⟩⟩
theorem CfP.off {P:Nat → Prop} {X:List Nat} {w w':World} {c:Cf} {cs:Array Value} (h:CfP P w c cs) (o:Off X w w') (hX:∀ x ∈ X,¬ P x):CfP P w' c cs:=by
 obtain ⟨vr,vg,e,a,vs,b,d,f⟩:=h
 exact ⟨vr,vg,e,a.off o hX,vs,b,d.off o hX,fun i g hi=>by obtain ⟨u,hu,hr⟩:=f i g hi;exact ⟨u,hu,hr.off o hX⟩⟩
theorem CfP.later {P:Nat → Prop} {w w':World} {c:Cf} {cs:Array Value} (h:CfP P w c cs) (hb:Below w.heap.size w w'):CfP P w' c cs:=h.off (Off.of hb []) (fun _ hx=>by cases hx)
theorem CfP.mono {P P':Nat → Prop} {w:World} {c:Cf} {cs:Array Value} (h:CfP P w c cs) (hP:∀ x,P x → P' x):CfP P' w c cs:=by
 obtain ⟨vr,vg,e,a,vs,b,d,f⟩:=h
 exact ⟨vr,vg,e,a.mono hP,vs,b,d.mono hP,fun i g hi=>by obtain ⟨u,hu,hr⟩:=f i g hi;exact ⟨u,hu,hr.mono hP⟩⟩
theorem CfP.row {P:Nat → Prop} {w:World} {c:Cf} {cs:Array Value} (h:CfP P w c cs):Row 2 cs:=by
 obtain ⟨vr,vg,rfl,⟨_,_,rfl,_⟩,vs,_,⟨_,_,rfl,_⟩,_⟩:=h
 exact ⟨rfl,rfl⟩
set_option maxRecDepth 20000 in
theorem zet (s:Str) (w:World) (hs:s.length ≤ 1000000) (he:Ev w) (het:Et w) :
  Calls Tryz.prog 24 #[tx s] w fun e w'=>∃ cs,e = .returned (.tuple #[.agg cs,.int .i64 (pF s).2.1,.int .i64 (pF s).2.2]) ∧ CfP (fun x=>w.heap.size ≤ x) w' (pF s).1 cs ∧ Below w.heap.size w w':=by
 have qa:=zac w (.cells #[.slice none 0 0,.slice none 0 0] 39)
 have Ba:=bal (Below.refl w.heap.size w) (.cells #[.slice none 0 0,.slice none 0 0] 39)
 have HF:Hid (pF s = if 3000 < s.length then (cf0,0,11) else runF cf0 0 (sp 10 s)):=rfl
 have zs:(w.alloc (.cells #[.slice none 0 0,.slice none 0 0] 39)).heap.size = w.heap.size + 1:=by simp
 by_cases hb:3000 < s.length
 ·
  have hb':(3000:Int) < s.length:=by omega
  have HN:Hid (pF s = (cf0,0,11)):=by show _ = _;rw [HF.out,if_pos hb]
  rw [HN.out]
  clear HF HN
  go_enter Tryz.func24,Tryz.ntmps24
  go_wp2_with (refine zad rfl 39 _ _ rfl w.heap.size #[.slice none 0 0,.slice none 0 0] rfl rfl _ 39 qa 2 rz39 rfl ⟨rfl,rfl⟩ ?_;intro w9 q9 o9 z9)
  exact bodyPost_ret (zax Tryz.results24 _ _ w.heap.size 39 #[.slice none 0 0,.slice none 0 0] _ rfl q9 Tryz.underlying39 rfl 2 rz39 rfl) rfl ⟨_,rfl,CfP.zero _ _,((Off.of Ba []).trans o9 (by simp)).below (by simp)⟩
 have hb':¬ (3000:Int) < s.length:=by omega
 have HN:Hid (pF s = runF cf0 0 (sp 10 s)):=by show _ = _;rw [HF.out,if_neg hb]
 rw [HN.out]
 clear HF HN
 have HL:Hid (∀ l ∈ sp 10 s,l.length ≤ 3000):=fun l hl=>by have:=sp_sub hl;omega
 have hln:(sp 10 s).length ≤ 3001:=by have:=sp_len 10 s;omega
 have hspl:=fun W (h:Mx W)=>znw 10 s W hs h
 generalize sp 10 s = L at *
 have qb:=zac (w.alloc (.cells #[.slice none 0 0,.slice none 0 0] 39)) (.cells #[.slice none 0 0,.slice none 0 0] 84)
 have Bb:=bal (Below.refl _ (w.alloc (.cells #[.slice none 0 0,.slice none 0 0] 39))) (.cells #[.slice none 0 0,.slice none 0 0] 84)
 have qa1:=zab Bb qa
 have B1:=Below.chain Ba Bb
 rw [zs] at qb
 obtain ⟨n,HNn⟩:∃ n,Hid (L.length = n):=⟨_,(rfl:L.length = L.length)⟩
 rw [HNn.out] at hln hspl
 obtain ⟨RES,HR⟩:∃ R,Hid (runF cf0 0 L = R):=⟨_,(rfl:runF cf0 0 L = runF cf0 0 L)⟩
 rw [HR.out]
 go_enter Tryz.func24,Tryz.ntmps24
 go_wp2_with (refine zad rfl 84 _ _ rfl (w.heap.size + 1) #[.slice none 0 0,.slice none 0 0] rfl rfl _ 84 qb 2 rz84 rfl ⟨rfl,rfl⟩ ?_;intro w2 q2 o2 z2)
 have B2:Below (w.alloc (.cells #[.slice none 0 0,.slice none 0 0] 39)).heap.size (w.alloc (.cells #[.slice none 0 0,.slice none 0 0] 39)) w2:=((Off.of Bb []).trans o2 (by simp)).below (by simp)
 have e1:=he.later Ba
 have t1:=het.later Ba
 generalize w.alloc (.cells #[.slice none 0 0,.slice none 0 0] 39) = w1 at *
 clear he het qb Bb B1 qa1
 refine (hspl _ (e1.later B2).mx).mono ?_
 rintro e w3 ⟨rfl,ql,b3⟩
 have B3:=B2.trans (b3.mono B2.size)
 have q3:=zab b3 q2
 have hR3:Rdg w1.heap.size (fun _=>False) w3 (w.heap.size + 1) cf0 (.slice none 0 0) (.slice none 0 0) []:=⟨by omega,q3,⟨rfl,Or.inl ⟨rfl,rfl⟩⟩,⟨rfl,Or.inl ⟨rfl,rfl⟩⟩,rfl,fun i g hi=>by simp [cf0] at hi,fun i j v u _ hi=>by simp at hi,fun x hx=>hx.elim⟩
 have hw2:w.heap.size + 1 < w2.heap.size:=zah q2
 generalize hsb:w2.heap.size = sb at *
 clear hsb hspl q2 B2 z2 o2 b3 q3
 go_wp2_with fail
 go_loopw [18,6] (fun i bg wr=>∃ (k:Nat) (g:Int) (c:Cf) (F:Nat → Prop) (vr vg:Value) (vs:List Value),k ≤ n ∧ i = .int .i64 k ∧ bg = .int .i64 g ∧ 0 ≤ g ∧ g ≤ 3001 * (k:Int) ∧ Below w1.heap.size w1 wr ∧ wr.heap[sb]? = some (.cells (L.map tx).toArray 9) ∧ Rdg w1.heap.size F wr (w.heap.size + 1) c vr vg vs ∧ Cap c ∧ Hid (runF c g (L.drop k) = RES)) (fun i _ _=>n - (intOf i).toNat)
 case atStart=>exact ⟨0,0,cf0,_,_,_,_,by omega,rfl,rfl,by omega,by omega,B3,ql,hR3,cap0,by show _ = _;rw [List.drop_zero];exact HR.out⟩
 case round=>
  obtain ⟨k,g,c,F,vr,vg,vs,hk,rfl,rfl,hg0,hg1,B,ql,hR,hcap,HRk⟩:=hrel
  have pr:=zab B qa
  clear hR3 B3 HR
  by_cases hlt:k < n
  ·
   have hlt':(k:Int) < n:=by omega
   have hkL:k < L.length:=by have:=HNn.out;omega
   have HD:Hid (L.drop k = L[k] :: L.drop (k + 1)):=List.drop_eq_getElem_cons hkL
   have hll:(L[k]).length ≤ 3000:=HL.out _ (List.getElem_mem hkL)
   have cl:wr.cell? ⟨sb,k,none⟩ = some (tx L[k]):=by rw [zaa ql];simp [hkL]
   have hT:=znu hR e1 t1 B hcap L[k] (by omega)
   rw [HD.out] at HRk
   clear HD
   generalize L[k] = ln at *
   have HRk2:Hid ((match stC c ln with | .inl c'=>runF c' (g + ((ln.length:Int) + 1)) (L.drop (k + 1)) | .inr x=>(cf0,wI (g + x.1),x.2)) = RES):=HRk
   have HCP:Hid (∀ c',stC c ln = .inl c' → Cap c'):=fun c' h=>stC_cap hcap h
   have HER:Hid (∀ x,stC c ln = .inr x → x.2 ≠ 0):=fun x h=>stC_err h
   clear HRk
   generalize stC c ln = st at *
   cases st with
   | inl c'=>
    have hc':=HCP.out c' rfl
    have HRn:Hid (runF c' (g + ((ln.length:Int) + 1)) (L.drop (k + 1)) = RES):=HRk2
    clear HRk2 HCP HER
    go_wp2_with fail
    refine hT.mono ?_
    rintro e w5 ⟨B5,K5,rfl,F',vr',vg',vs',hFn,hR5⟩
    have ql5:=K5 _ _ _ ql (by decide)
    clear hT
    have hw1:IntKind.i64.wrap ((ln.length:Int) + 1) = (ln.length:Int) + 1:=by rw [IntKind.wrap_i64];omega
    have hw2':IntKind.i64.wrap (g + ((ln.length:Int) + 1)) = g + ((ln.length:Int) + 1):=by rw [IntKind.wrap_i64];omega
    go_wp2_with (refine zad rfl 87 _ _ rfl w5.heap.size #[.int .i64 0,.int .i64 0] rfl rfl _ 87 (zac w5 (.cells #[.int .i64 0,.int .i64 0] 87)) 2 rz87 rfl ⟨rfl,rfl⟩ ?_;intro w6 p6 o6 z6;have b6:=((Off.of (bal (Below.refl w5.heap.size w5) (.cells #[.int .i64 0,.int .i64 0] 87)) []).trans o6 (by simp)).below (by simp);have m0:=(zaa p6 0).trans rfl;have m1:=(zaa p6 1).trans rfl)
    go_roundw
    case rel=>exact ⟨k + 1,g + ((ln.length:Int) + 1),c',F',vr',vg',vs',by omega,by go_num,rfl,by omega,by push_cast;omega,B5.trans (b6.mono B5.size),zab b6 ql5,hR5.later b6,hc',HRn⟩
    case measure=>simp [intOf];omega
   | inr x=>
    have hx:=HER.out x rfl
    have hx1:(x.2 != 0) = true:=by rw [bne_iff_ne];exact hx
    have hx2:(x.2 == 0) = false:=beq_eq_false_iff_ne.2 hx
    have HRn:Hid ((cf0,wI (g + x.1),x.2) = RES):=HRk2
    clear HRk2 HCP HER hx
    obtain ⟨pl,hpl⟩:∃ pl,IntKind.i64.wrap (g + x.1) = pl:=⟨_,rfl⟩
    have HW:Hid (wI (g + x.1) = pl):=hpl
    go_wp2_with fail
    refine hT.mono ?_
    rintro e w5 ⟨B5,K5,rfl⟩
    have pr5:=zab B5 qa
    clear hT
    go_upto_region 10 with (refine zad rfl 87 _ _ rfl w5.heap.size #[.int .i64 x.1,.int .i64 x.2] rfl rfl _ 87 (zac w5 (.cells #[.int .i64 0,.int .i64 0] 87)) 2 rz87 rfl ⟨rfl,rfl⟩ ?_;intro w6 p6 o6 z6;have b6:=((Off.of (bal (Below.refl w5.heap.size w5) (.cells #[.int .i64 0,.int .i64 0] 87)) []).trans o6 (by simp)).below (by simp);have m0:=(zaa p6 0).trans rfl;have m1:=(zaa p6 1).trans rfl)
    have pr6:=zab b6 pr5
    have B6:=B5.trans (b6.mono B5.size)
    have pr7:=zab (zag w6) pr6
    have p7:=zab (zag w6) p6
    have B7:=B6.trans ((zag w6).mono B6.size)
    have hsz:w.heap.size < w5.heap.size:=zah pr5
    clear m0 m1
    refine wp_region_noPanic ?_
    refine wp_region_held_drew (S:=fun W=>W.heap[w5.heap.size]? = some (.cells #[.int .i64 x.1,.int .i64 x.2] 87)) (by kernel_rfl) ?_ (fun _=>?_)
    ·
     exact p7
    generalize w6.drew = wd at *
    refine tk 0 27 (.agg #[.slice none 0 0,.slice none 0 0]) rfl (fun W hSw=>by go_simp) p7 ?_
    simp only [Act.put,pB,pC,pD]
    refine tk 1 28 (.int .i64 g) rfl (fun W hSw=>by go_simp) p7 ?_
    simp only [Act.put,pB,pC,pD]
    refine tk 2 29 (.pointer (some ⟨w5.heap.size,0,none⟩)) rfl (fun W hSw=>by go_simp) p7 ?_
    simp only [Act.put,pB,pC,pD]
    refine tk 3 30 (.int .i64 x.1) rfl (fun W hSw=>by (have c_:=(zaa hSw 0).trans rfl;go_simp)) p7 ?_
    simp only [Act.put,pB,pC,pD]
    refine tk 4 31 (.int .i64 pl) rfl (fun W hSw=>by go_simp) p7 ?_
    simp only [Act.put,pB,pC,pD]
    refine tk 5 32 (.pointer (some ⟨w5.heap.size,1,none⟩)) rfl (fun W hSw=>by go_simp) p7 ?_
    simp only [Act.put,pB,pC,pD]
    refine tk 6 33 (.int .i64 x.2) rfl (fun W hSw=>by (have c_:=(zaa hSw 1).trans rfl;go_simp)) p7 ?_
    simp only [Act.put,pB,pC,pD]
    refine wpAnyH_ready (rs:=[7]) (by kernel_rfl) (by simp) ?_
    refine aR rfl fun K hK=>?_
    refine zbw 39 _ _ none rfl rfl (by rfl) w.heap.size #[.slice none 0 0,.slice none 0 0] rfl rfl _ 39 pr7 2 rz39 rfl ⟨rfl,rfl⟩ ?_
    intro w8 q8 o8 z8
    have p8:=o8.heap p7 (by simp;omega)
    have B8:=((Off.of (Below.chain Ba B7) []).trans o8 (by simp)).below (by simp)
    refine hK.out _ _ ?_ (fun _=>?_)
    ·
     exact p8
    clear hK K
    refine tk 8 3 (.int .i64 pl) rfl (fun W hSw=>by go_simp) p8 ?_
    simp only [Act.put,pB,pC,pD]
    refine tk 9 4 (.int .i64 x.2) rfl (fun W hSw=>by go_simp) p8 ?_
    simp only [Act.put,pB,pC,pD]
    refine wpAnyH_done (by kernel_rfl) ?_ _
    refine NoPanic.normal ?_
    go_wp2_with fail
    exact bodyPost_ret (zax Tryz.results24 _ _ w.heap.size 39 #[.slice none 0 0,.slice none 0 0] _ rfl q8 Tryz.underlying39 rfl 2 rz39 rfl) rfl ⟨_,by rw [← HRn.out,HW.out];rfl,by rw [← HRn.out];exact CfP.zero _ _,B8⟩
  have hlt':¬ (k:Int) < n:=by omega
  have HE:Hid (runF c g [] = RES):=by
   have:L.drop k = []:=List.drop_eq_nil_of_le (by have:=HNn.out;omega)
   show _ = _
   rw [← this]
   exact HRk.out
  have HE2:Hid ((c,(0:Int),(0:Int)) = RES):=HE
  have hcf:=zoy hR B.size hcap.gs
  clear HE HRk HL
  go_wp2_with fail
  refine hcf.mono ?_
  rintro e w5 ⟨cs,rfl,cf,_,row,b5⟩
  have pr5:=zab b5 pr
  have B5:=Below.chain Ba (B.trans (b5.mono B.size))
  clear hcf
  go_wp2_with (refine zad rfl 39 _ _ rfl w.heap.size cs rfl rfl _ 39 pr5 2 rz39 rfl row ?_;intro w9 q9 o9 z9)
  exact bodyPost_ret (zax Tryz.results24 _ _ w.heap.size 39 cs _ rfl q9 Tryz.underlying39 rfl 2 rz39 row.1) rfl ⟨cs,by rw [← HE2.out];rfl,by rw [← HE2.out];exact (cf.off o9 (off1 (by omega))).mono (fun x hx=>by omega),((Off.of B5 []).trans o9 (by simp)).below (by simp)⟩
end Go.Proofs.YtjlaihekocjggaaGreatDoor
