/- Texts that the others lean on. -/
import Derived.Test.YtjlaihekocjggaaGreatDoorKRRel2
import Derived.Test.YtjlaihekocjggaaGreatDoorKRRec3
import Derived.Test.YtjlaihekocjggaaGreatDoorKRGrp2
set_option maxHeartbeats 16000000
namespace Go.Proofs.YtjlaihekocjggaaGreatDoor
open Go.RowKit
structure Cap (c:Cf):Prop where
 rl:c.rl.length ≤ 6
 gs:c.gs.length ≤ 3
 rs:∀ g ∈ c.gs,g.rs.length ≤ 8
theorem cap0:Cap cf0:=⟨by decide,by decide,fun g hg=>by cases hg⟩
theorem stC_cap {c c':Cf} {l:Str} (h:Cap c) (e:stC c l = .inl c'):Cap c':=by
 unfold stC at e
 split at e
 ·
  cases e;exact h
 split at e
 ·
  unfold stG at e
  split at e
  ·
   cases e
  split at e
  ·
   cases e
  split at e
  ·
   cases e
  next h3 _=>
  cases e
  refine ⟨h.rl,by have:=h.gs;simp;omega,fun g hg=>?_⟩
  rcases List.mem_append.1 hg with hg | hg
  ·
   exact h.rs g hg
  simp at hg;subst hg;simp
 split at e
 ·
  unfold stR at e
  split at e
  ·
   split at e
   ·
    cases e
   next g hg=>
   split at e
   ·
    cases e
   next h8=>
   split at e
   ·
    cases e
    have hm:g ∈ c.gs:=List.mem_of_getLast? hg
    have hne:c.gs ≠ []:=fun e=>by rw [e] at hm;cases hm
    refine ⟨h.rl,by have:=h.gs;have:=List.length_pos_iff.2 hne;simp;omega,fun g' hg'=>?_⟩
    rcases List.mem_append.1 hg' with hg' | hg'
    ·
     exact h.rs g' ((List.dropLast_sublist _).subset hg')
    have:=h.rs g hm
    simp at hg';subst hg';simp;omega
   cases e
  cases e
 unfold stL at e
 split at e
 ·
  split at e
  ·
   split at e
   ·
    cases e
   next h6=>
   cases e
   exact ⟨by have:=h.rl;simp;omega,h.gs,h.rs⟩
  cases e
 cases e
theorem zhu {wb w w1 w2 w':World} {F:Nat → Prop} {b:Nat} {res:Cf ⊕ (Int × Int)} {e:Ending} (h:TkOut wb w1 F b res e w2) (q:∃ a y:Int,e = .returned (.agg #[.int .i64 a,.int .i64 y]) ∧ w2.heap[w.heap.size]? = some (.cells #[.int .i64 0,.int .i64 0] 87) ∧ Off [w.heap.size] w2 w') (hb:wb.heap.size ≤ w.heap.size) (hbb:b ≠ w.heap.size) (h1:w.heap.size < w1.heap.size) (hF:¬ F w.heap.size) (hk0:Kt w w1):TkOut wb w F b res e w':=by
 obtain ⟨a,y,_,q2,o⟩:=q
 obtain ⟨hB,hk,hr⟩:=h
 refine ⟨((Off.of hB []).trans o (by simp;omega)).below (by simp),(hk0.trans hk).fresh o (Nat.le_refl _),?_⟩
 cases res with
 | inl c'=>
  obtain ⟨he,F',vr,vg,vs,hx,hd⟩:=hr
  refine ⟨he,F',vr,vg,vs,fun x hF'=>?_,hd.off9 o ⟨hbb,fun hq=>?_⟩ q2⟩
  ·
   rcases hx x hF' with h' | h'
   ·
    exact Or.inl h'
   exact Or.inr (by omega)
  rcases hx _ hq with h' | h'
  ·
   exact hF h'
  omega
 | inr x=>exact hr
theorem TkOut.val {wb w w':World} {F:Nat → Prop} {b:Nat} {res:Cf ⊕ (Int × Int)} {e:Ending} (h:TkOut wb w F b res e w'):∃ a y:Int,e = .returned (.agg #[.int .i64 a,.int .i64 y]):=by
 obtain ⟨_,_,hr⟩:=h
 cases res with
 | inl c'=>exact ⟨0,0,hr.1⟩
 | inr x=>exact ⟨_,_,hr⟩
set_option maxRecDepth 20000 in
theorem znu {wb w:World} {F:Nat → Prop} {b:Nat} {c:Cf} {vr vg:Value} {vs:List Value} (h:Rdg wb.heap.size F w b c vr vg vs) (he:Ev wb) (het:Et wb) (hB:Below wb.heap.size wb w) (hc:Cap c) (l:Str) (hs:l.length ≤ 90000) :
  Calls Tryz.prog 51 #[.pointer (some ⟨b,0,none⟩),tx l] w (TkOut wb w F b (stC c l)):=by
 have hB0:Below wb.heap.size wb (w.alloc (.cells #[.int .i64 0,.int .i64 0] 87)):=bal hB (.cells #[.int .i64 0,.int .i64 0] 87)
 have kT0:Kt w (w.alloc (.cells #[.int .i64 0,.int .i64 0] 87)):=(Kt.refl w).later (bal (Below.refl w.heap.size w) (.cells #[.int .i64 0,.int .i64 0] 87))
 have h0:=h.later (bal (Below.refl w.heap.size w) (.cells #[.int .i64 0,.int .i64 0] 87))
 have q0:=zac w (.cells #[.int .i64 0,.int .i64 0] 87)
 have hzz:=h.lt
 have hzb:=hB.size
 have hnF:¬ F w.heap.size:=fun hq=>by have:=(h.fr _ hq).1;omega
 have hcu:=fun W (k:Mx W)=>Lb.cutS_any l [32] W (by omega) k
 have hcu:∀ W,Mx W → Calls Tryz.prog 91 #[tx l,tx [32]] W fun e w'=>e = .returned (.tuple #[tx (wrd l),tx (Lib.cut l [32]).2.1,.bool (Lib.cut l [32]).2.2]) ∧ Below W.heap.size W w':=hcu
 generalize (Lib.cut l [32]).2.1 = c1 at *
 generalize (Lib.cut l [32]).2.2 = c2 at *
 have HS:Hid (stC c l = if l.head?.getD 35 = 35 then .inl c else if wrd l = [103,114,111,117,112] then stG c l else if wrd l = [114,101,99,111,114,100] then stR c l else stL c l):=rfl
 clear h hB
 by_cases hl:l = []
 ·
  subst hl
  have HN:Hid (stC c [] = .inl c):=by show _ = _;rw [HS.out];rfl
  clear HS hcu
  rw [HN.out]
  go_enter Tryz.func51,Tryz.ntmps51
  go_wp2_with (refine zad rfl 87 _ _ rfl w.heap.size #[.int .i64 0,.int .i64 0] rfl rfl _ 87 q0 2 rz87 rfl ⟨rfl,rfl⟩ ?_;intro w9 q9 o9 z9)
  exact bodyPost_ret (zak Tryz.results51 _ _ w.heap.size 87 #[.int .i64 0,.int .i64 0] _ rfl q9 Tryz.underlying87 rfl 2 rz87 rfl) rfl ⟨((Off.of hB0 []).trans o9 (by simp;omega)).below (by simp),kT0.fresh o9 (Nat.le_refl _),rfl,F,vr,vg,vs,fun _ hx=>Or.inl hx,h0.off9 o9 ⟨by omega,hnF⟩ q0⟩
 have hl0:0 < l.length:=List.length_pos_iff.2 hl
 have hbk:=zed hl0
 have hne:(l == ([]:Str)) = false:=beq_eq_false_iff_ne.2 hl
 have hhd:l.head?.getD 35 = l[0]:=by
  cases l with
  | nil=>exact absurd rfl hl
  | cons x r=>rfl
 rw [hhd] at HS
 by_cases h35:(((⟨l.toArray⟩:ByteArray)[0]'hbk).toNat:Int) = 35
 ·
  have e35:((((⟨l.toArray⟩:ByteArray)[0]'hbk).toNat:Int) == 35) = true:=beq_iff_eq.2 h35
  have HN:Hid (stC c l = .inl c):=by show _ = _;rw [HS.out,if_pos (show l[0] = 35 from zcb (k:=35) (by decide) h35)]
  clear HS hcu h35
  rw [HN.out]
  go_enter Tryz.func51,Tryz.ntmps51
  go_wp2_with (refine zad rfl 87 _ _ rfl w.heap.size #[.int .i64 0,.int .i64 0] rfl rfl _ 87 q0 2 rz87 rfl ⟨rfl,rfl⟩ ?_;intro w9 q9 o9 z9)
  exact bodyPost_ret (zak Tryz.results51 _ _ w.heap.size 87 #[.int .i64 0,.int .i64 0] _ rfl q9 Tryz.underlying87 rfl 2 rz87 rfl) rfl ⟨((Off.of hB0 []).trans o9 (by simp;omega)).below (by simp),kT0.fresh o9 (Nat.le_refl _),rfl,F,vr,vg,vs,fun _ hx=>Or.inl hx,h0.off9 o9 ⟨by omega,hnF⟩ q0⟩
 have e35:((((⟨l.toArray⟩:ByteArray)[0]'hbk).toNat:Int) == 35) = false:=beq_eq_false_iff_ne.2 h35
 rw [if_neg (show ¬ l[0] = 35 from zcg (k:=35) (by decide) h35)] at HS
 clear h35 hhd hl
 by_cases hg:wrd l = [103,114,111,117,112]
 ·
  have HN:Hid (stC c l = stG c l):=by show _ = _;rw [HS.out,if_pos hg]
  have hg1:(wrd l == [103,114,111,117,112]) = true:=beq_iff_eq.2 hg
  rw [HN.out]
  clear HS
  generalize wrd l = wd at *
  clear hg
  go_enter Tryz.func51,Tryz.ntmps51
  go_wp2_with fail
  generalize w.alloc (.cells #[.int .i64 0,.int .i64 0] 87) = w0 at *
  refine (hcu _ (he.later hB0).mx).mono ?_
  rintro e w1 ⟨rfl,b1⟩
  have q1:=zab b1 q0
  have h1:=h0.later b1
  have hB1:=hB0.trans (b1.mono hB0.size)
  have z1:w.heap.size < w1.heap.size:=zah q1
  have q1':=q1
  go_wp2_with fail
  refine (takeG_any h1 he hB1 hc.gs l hs).mono ?_
  rintro e w2 hT
  obtain ⟨a,y,rfl⟩:=hT.val
  have q2:w2.heap[w.heap.size]? = some (.cells #[.int .i64 0,.int .i64 0] 87):=hT.2.1 _ _ _ q1 (by decide)
  go_wp2_with (refine zad rfl 87 _ _ rfl w.heap.size #[.int .i64 a,.int .i64 y] rfl rfl _ 87 q2 2 rz87 rfl ⟨rfl,rfl⟩ ?_;intro w9 q9 o9 z9)
  exact bodyPost_ret (zak Tryz.results51 _ _ w.heap.size 87 #[.int .i64 a,.int .i64 y] _ rfl q9 Tryz.underlying87 rfl 2 rz87 rfl) rfl (zhu hT ⟨a,y,rfl,q2,o9⟩ (by omega) (by omega) z1 hnF (kT0.later b1))
 have hg1:(wrd l == [103,114,111,117,112]) = false:=beq_eq_false_iff_ne.2 hg
 by_cases hr:wrd l = [114,101,99,111,114,100]
 ·
  have HN:Hid (stC c l = stR c l):=by show _ = _;rw [HS.out,if_neg hg,if_pos hr]
  have hr1:(wrd l == [114,101,99,111,114,100]) = true:=beq_iff_eq.2 hr
  rw [HN.out]
  clear HS
  generalize wrd l = wd at *
  clear hg hr
  go_enter Tryz.func51,Tryz.ntmps51
  go_wp2_with fail
  generalize w.alloc (.cells #[.int .i64 0,.int .i64 0] 87) = w0 at *
  refine (hcu _ (he.later hB0).mx).mono ?_
  rintro e w1 ⟨rfl,b1⟩
  have q1:=zab b1 q0
  have h1:=h0.later b1
  have hB1:=hB0.trans (b1.mono hB0.size)
  have z1:w.heap.size < w1.heap.size:=zah q1
  have q1':=q1
  go_wp2_with fail
  refine (takeR_any h1 he het hB1 hc.gs hc.rs l hs).mono ?_
  rintro e w2 hT
  obtain ⟨a,y,rfl⟩:=hT.val
  have q2:w2.heap[w.heap.size]? = some (.cells #[.int .i64 0,.int .i64 0] 87):=hT.2.1 _ _ _ q1 (by decide)
  go_wp2_with (refine zad rfl 87 _ _ rfl w.heap.size #[.int .i64 a,.int .i64 y] rfl rfl _ 87 q2 2 rz87 rfl ⟨rfl,rfl⟩ ?_;intro w9 q9 o9 z9)
  exact bodyPost_ret (zak Tryz.results51 _ _ w.heap.size 87 #[.int .i64 a,.int .i64 y] _ rfl q9 Tryz.underlying87 rfl 2 rz87 rfl) rfl (zhu hT ⟨a,y,rfl,q2,o9⟩ (by omega) (by omega) z1 hnF (kT0.later b1))
 have HN:Hid (stC c l = stL c l):=by show _ = _;rw [HS.out,if_neg hg,if_neg hr]
 have hr1:(wrd l == [114,101,99,111,114,100]) = false:=beq_eq_false_iff_ne.2 hr
 rw [HN.out]
 clear HS
 generalize wrd l = wd at *
 clear hg hr
 go_enter Tryz.func51,Tryz.ntmps51
 go_wp2_with fail
 generalize w.alloc (.cells #[.int .i64 0,.int .i64 0] 87) = w0 at *
 refine (hcu _ (he.later hB0).mx).mono ?_
 rintro e w1 ⟨rfl,b1⟩
 have q1:=zab b1 q0
 have h1:=h0.later b1
 have hB1:=hB0.trans (b1.mono hB0.size)
 have z1:w.heap.size < w1.heap.size:=zah q1
 have q1':=q1
 go_wp2_with fail
 refine (takeL_any h1 he hB1 hc.rl hc.gs l hs).mono ?_
 rintro e w2 hT
 obtain ⟨a,y,rfl⟩:=hT.val
 have q2:w2.heap[w.heap.size]? = some (.cells #[.int .i64 0,.int .i64 0] 87):=hT.2.1 _ _ _ q1 (by decide)
 go_wp2_with (refine zad rfl 87 _ _ rfl w.heap.size #[.int .i64 a,.int .i64 y] rfl rfl _ 87 q2 2 rz87 rfl ⟨rfl,rfl⟩ ?_;intro w9 q9 o9 z9)
 exact bodyPost_ret (zak Tryz.results51 _ _ w.heap.size 87 #[.int .i64 a,.int .i64 y] _ rfl q9 Tryz.underlying87 rfl 2 rz87 rfl) rfl (zhu hT ⟨a,y,rfl,q2,o9⟩ (by omega) (by omega) z1 hnF (kT0.later b1))
theorem zei {w w':World} {base size n x:Nat} {e t:TypeId} {v:Value} {cs:List Value} {ds:Array Value} (h:w.ownsRow base e size v n cs) (o:Off [x] w w') (hx:w.heap[x]? = some (.cells ds t)) (hne:e ≠ t):w'.ownsRow base e size v n cs:=
 zal h o (fun y hy=>by
  have hy':y = x:=by simpa using hy
  rw [hy']
  exact zap h hx hne)
theorem rz37:(Tryz.prog.info? 37).map (·.size) = some 1:=by kernel_rfl
theorem done_any9 (n:Str) (y:Int) (a:Option Addr) (m c:Nat) (w:World):Calls Tryz.prog 95 #[.agg #[tx n,.int .i64 y,.slice a m c]] w fun e w'=>e = .returned (.agg #[tx n,.int .i64 y,.slice a m c]) ∧ Below w.heap.size w w':=by
 have qa:=zac w (.cells #[tx n,.int .i64 y,.slice a m c] 138)
 have Ba:=bal (Below.refl w.heap.size w) (.cells #[tx n,.int .i64 y,.slice a m c] 138)
 have qb:=zac (w.alloc (.cells #[tx n,.int .i64 y,.slice a m c] 138)) (.cells #[.string ⟨#[]⟩,.int .i64 0,.slice none 0 0] 62)
 have Bb:=Below.chain Ba (bal (Below.refl _ (w.alloc (.cells #[tx n,.int .i64 y,.slice a m c] 138))) (.cells #[.string ⟨#[]⟩,.int .i64 0,.slice none 0 0] 62))
 have qa:=zat qa (.cells #[.string ⟨#[]⟩,.int .i64 0,.slice none 0 0] 62)
 have zs:(w.alloc (.cells #[tx n,.int .i64 y,.slice a m c] 138)).heap.size = w.heap.size + 1:=by simp
 rw [zs] at qb
 have c0:=(zaa qa 0).trans rfl
 have c1:=(zaa qa 1).trans rfl
 have c2:=(zaa qa 2).trans rfl
 go_enter Tryz.func95,Tryz.ntmps95
 go_wp2_with (refine zad rfl 62 _ _ rfl (w.heap.size + 1) #[tx n,.int .i64 y,.slice a m c] rfl rfl _ 62 qb 3 rz62 rfl ⟨rfl,rfl⟩ ?_;intro w9 q9 o9 z9)
 exact bodyPost_ret (zak Tryz.results95 _ _ (w.heap.size + 1) 62 #[tx n,.int .i64 y,.slice a m c] _ rfl q9 Tryz.underlying62 rfl 3 rz62 rfl) rfl ⟨rfl,((Off.of Bb []).trans o9 (by simp)).below (by simp)⟩
theorem info62:(Tryz.prog.info? 62).map (fun i=>(i.zero,i.size,i.bytes)) = some (some (.agg #[tx [],.int .i64 0,.slice none 0 0]),3,48):=by kernel_rfl
theorem zju:∃ i,Tryz.prog.info? 62 = some i ∧ i.zero = some (.agg #[tx [],.int .i64 0,.slice none 0 0]) ∧ i.size = 3 ∧ i.bytes = 48:=by
 have h:=info62
 cases hi:Tryz.prog.info? 62 with
 | none=>rw [hi] at h;cases h
 | some i=>
  rw [hi] at h
  simp only [Option.map_some,Option.some.injEq,Prod.mk.injEq] at h
  exact ⟨i,rfl,h.1,h.2.1,h.2.2⟩
def Gx (w:World) (ao:Option Addr) (gs:List Gr) (vs:List Value):Prop:=∀ (i:Nat) g u,gs[i]? = some g → vs[i]? = some u → ∃ b off,ao = some ⟨b,off,none⟩ ∧ w.rangeAt b (off + i * 3) [tx g.name,.int .i64 g.ev,u]
theorem Gx.later {w w':World} {ao:Option Addr} {gs:List Gr} {vs:List Value} (h:Gx w ao gs vs) (hb:Below w.heap.size w w'):Gx w' ao gs vs:=fun i g u hi hu=>by
 obtain ⟨b,off,e,hr⟩:=h i g u hi hu
 exact ⟨b,off,e,zes hr hb⟩
theorem Rdg.viewX {base:Nat} {F:Nat → Prop} {w:World} {b:Nat} {c:Cf} {vr vg:Value} {vs:List Value} (h:Rdg base F w b c vr vg vs):∃ ao cap,vg = .slice ao c.gs.length cap ∧ Gx w ao c.gs vs:=by
 rcases h.gs.2 with ⟨e,h0⟩ | ⟨g,cap,cur,e,hb0,hc,hn,hm,hs,ht⟩
 ·
  refine ⟨none,0,by rw [e,h0],fun i g u hi _=>?_⟩
  have:=(List.getElem?_eq_some_iff.1 hi).1
  omega
 refine ⟨some ⟨g,0,none⟩,cap,e,fun i gr u hi hv=>?_⟩
 have hlt:=(List.getElem?_eq_some_iff.1 hi).1
 obtain ⟨k0,k1,k2⟩:=zem c.gs vs i gr _ hi hv
 refine ⟨g,0,rfl,?_⟩
 intro j x hx
 have key:∀ j u,j < c.gs.length * 3 → (cellsG c.gs vs)[j]? = some u → w.cell? ⟨g,j,none⟩ = some u:=fun j u hj hq=>by
  rw [cell_of_row _ _ _ _ _ _ hc,← hq,← ht,List.getElem?_take_of_lt hj]
  simp
 match j,hx with
 | 0,hx=>simp at hx;subst hx;exact key _ _ (by omega) (by simpa using k0)
 | 1,hx=>simp at hx;subst hx;exact key _ _ (by omega) (by simpa using k1)
 | 2,hx=>simp at hx;subst hx;exact key _ _ (by omega) (by simpa using k2)
 | j + 3,hx=>simp at hx
theorem zly {gs:List Gr} {vs:List Value} (hl:vs.length = gs.length) {k:Nat} {g:Gr} {u:Value} (hg:gs[k]? = some g) (hu:vs[k]? = some u):cellsG (gs.take (k + 1)) (vs.take (k + 1)) = cellsG (gs.take k) (vs.take k) ++ [tx g.name,.int .i64 g.ev,u]:=by
 have h1:=(List.getElem?_eq_some_iff.1 hg).1
 have h2:=(List.getElem?_eq_some_iff.1 hu).1
 have e1:gs.take (k + 1) = gs.take k ++ [g]:=by rw [List.take_add_one,hg];rfl
 have e2:vs.take (k + 1) = vs.take k ++ [u]:=by rw [List.take_add_one,hu];rfl
 rw [e1,e2,zeb _ _ (by simp;omega)]
set_option maxRecDepth 20000 in
theorem zoy {base:Nat} {F:Nat → Prop} {w:World} {b:Nat} {c:Cf} {vr vg:Value} {vs:List Value} (h:Rdg base F w b c vr vg vs) (hbw:base ≤ w.heap.size) (hc3:c.gs.length ≤ 3) :
  Calls Tryz.prog 52 #[.pointer (some ⟨b,0,none⟩)] w fun e w'=>∃ cs,e = .returned (.agg cs) ∧ CfP (fun x=>base ≤ x) w' c cs ∧ cs.size = 2 ∧ Row 2 cs ∧ Below w.heap.size w w':=by
 obtain ⟨i0,hi,hz0,hz1,hz2⟩:=zju
 obtain ⟨al,cl,hvl⟩:=zav h.rl
 subst hvl
 obtain ⟨ag,cg,hvg,gx⟩:=h.viewX
 subst hvg
 have HX:Hid (Gx w ag c.gs vs):=gx
 have HL:Hid (vs.length = c.gs.length):=h.len
 have HV:Hid (∀ (i:Nat) u,vs[i]? = some u → ∃ a m c,u = .slice a m c):=fun i u hu=>by
  obtain ⟨n,cs,ho⟩:=h.own hu
  obtain ⟨a,cp,e⟩:=zav ho
  exact ⟨a,_,cp,e⟩
 have HC:Hid (∀ W v',Below w.heap.size w W → W.ownsRow w.heap.size 62 3 v' c.gs.length (cellsG c.gs vs) → CfP (fun x=>base ≤ x) W c #[.slice al c.rl.length cl,v']):=fun W v' hW hv=>by
  have h2:=h.later hW
  refine ⟨_,_,rfl,Sl.owns h2.rl h2.rl.1,vs,h2.len,(Sl.owns hv hv.1).mono (fun x hx=>by omega),fun i g hg=>?_⟩
  obtain ⟨u,hu,hr⟩:=h2.rs i g hg
  exact ⟨u,hu,hr.to (fun x hx=>(h2.fr x hx).2.1)⟩
 have hzz:=h.lt
 generalize hn:c.gs.length = n at *
 have HN:Hid (c.gs.length = n):=hn
 clear hn gx
 have qa:=zac w (.cells #[.slice none 0 0,.slice none 0 0] 39)
 have Ba:=bal (Below.refl w.heap.size w) (.cells #[.slice none 0 0,.slice none 0 0] 39)
 have h0:=h.later Ba
 have hd0:=h0.hd
 have d0:=(zaa hd0 0).trans rfl
 have d1:=(zaa hd0 1).trans rfl
 have qb:=zac (w.alloc (.cells #[.slice none 0 0,.slice none 0 0] 39)) (.cells #[.slice none 0 0,.slice none 0 0] 39)
 have Bb:=Below.chain Ba (bal (Below.refl _ (w.alloc (.cells #[.slice none 0 0,.slice none 0 0] 39))) (.cells #[.slice none 0 0,.slice none 0 0] 39))
 have qa:=zat qa (.cells #[.slice none 0 0,.slice none 0 0] 39)
 have zs:(w.alloc (.cells #[.slice none 0 0,.slice none 0 0] 39)).heap.size = w.heap.size + 1:=by simp
 rw [zs] at qb
 have hd1:=zat hd0 (.cells #[.slice none 0 0,.slice none 0 0] 39)
 have f1:=(zaa hd1 1).trans rfl
 have hne:(w.alloc (.cells #[.slice none 0 0,.slice none 0 0] 39)).alloc (.cells #[.slice none 0 0,.slice none 0 0] 39) = (w.alloc (.cells #[.slice none 0 0,.slice none 0 0] 39)).alloc (.cells #[.slice none 0 0,.slice none 0 0] 39):=rfl
 clear h h0 hd0 hne
 go_enter Tryz.func52,Tryz.ntmps52
 go_wp2_with (refine zad rfl 39 _ _ rfl (w.heap.size + 1) #[.slice al c.rl.length cl,.slice none 0 0] rfl rfl _ 39 qb 2 rz39 rfl ⟨rfl,rfl⟩ ?_;intro w2 q2 o2 z2;have f2:=o2.cell f1 (by simp;omega))
 have B2:=((Off.of Bb []).trans o2 (by simp)).below (by simp)
 have p2:=o2.heap qa (by simp)
 clear qb qa d0 d1 f1 hd1 o2 z2
 go_loopw [16] (fun i wr=>∃ (k:Nat) (v':Value),k ≤ n ∧ i = .int .i64 k ∧ Below w.heap.size w wr ∧ wr.heap[w.heap.size]? = some (.cells #[.slice none 0 0,.slice none 0 0] 39) ∧ wr.heap[w.heap.size + 1]? = some (.cells #[.slice al c.rl.length cl,v'] 39) ∧ wr.ownsRow w.heap.size 62 3 v' k (cellsG (c.gs.take k) (vs.take k))) (fun i _=>n - (intOf i).toNat)
 case atStart=>exact ⟨0,_,by omega,rfl,B2,p2,q2,by simp [cellsG],Or.inl ⟨rfl,rfl⟩⟩
 case round=>
  obtain ⟨k,v',hk,rfl,B,pr,qr,own⟩:=hrel
  obtain ⟨ao,cap,rfl⟩:=zav own
  by_cases hlt:k < n
  ·
   have hlt':(k:Int) < n:=by omega
   obtain ⟨g,hg⟩:∃ g,c.gs[k]? = some g:=⟨_,List.getElem?_eq_getElem (by have:=HN.out;omega)⟩
   obtain ⟨u,hu⟩:∃ u,vs[k]? = some u:=⟨_,List.getElem?_eq_getElem (by have:=HN.out;have:=HL.out;omega)⟩
   obtain ⟨bg,off,ea,hr⟩:=(Gx.later HX.out B) k g u hg hu
   obtain ⟨ua,um,uc,rfl⟩:=HV.out k u hu
   subst ea
   have HE:Hid _:=zly (by rw [HL.out];exact HN.out.symm) hg hu
   have hdn:=fun W=>done_any9 g.name g.ev ua um uc W
   have q0:=zac wr (.cells #[.string ⟨#[]⟩,.int .i64 0,.slice none 0 0] 138)
   clear hg hu
   generalize g.name = gn at *
   generalize g.ev = ge at *
   go_upto_region 5 with (first | (refine zbi rfl 138 _ rfl bg (off + k * 3) #[tx gn,.int .i64 ge,.slice ua um uc] rfl hr _ Tryz.underlying138 rfl 3 zgq rfl ?_) | (refine zad rfl 138 _ _ rfl wr.heap.size #[tx gn,.int .i64 ge,.slice ua um uc] rfl rfl _ 138 q0 3 zgq rfl ⟨rfl,rfl⟩ ?_;intro w4 p4 o4 z4;have b4:=((Off.of (bal (Below.refl wr.heap.size wr) (.cells #[.string ⟨#[]⟩,.int .i64 0,.slice none 0 0] 138)) []).trans o4 (by simp)).below (by simp)))
   have B4:=Below.chain B b4
   have pr4:=zab b4 pr
   have qr4:=zab b4 qr
   have own4:=zal own (Off.of b4 []) (fun _ hx=>by cases hx)
   have B5':=zag w4
   have B5:=Below.chain B4 B5'
   have pr5:=zab B5' pr4
   have qr5:=zab B5' qr4
   have p5:=zab B5' p4
   have own5:=zal own4 (Off.of B5' []) (fun _ hx=>by cases hx)
   have hw4:wr.heap.size < w4.heap.size:=zah p4
   have hw4':wr.heap.size < w4.drew.heap.size:=hw4
   have hwr:w.heap.size + 1 < wr.heap.size:=zah qr
   clear B4 pr4 qr4 p4 own4 o4 z4 own pr
   refine wp_region_noPanic ?_
   refine wp_region_held_drew (S:=fun W=>W.heap[wr.heap.size]? = some (.cells #[tx gn,.int .i64 ge,.slice ua um uc] 138)) (by kernel_rfl) ?_ (fun _=>?_)
   ·
    exact p5
   generalize w4.drew = wd at *
   refine tk 0 20 (.pointer (some ⟨w.heap.size + 1,1,none⟩)) rfl (fun W hSw=>by go_simp) p5 ?_
   simp only [Act.put,pB,pC,pD]
   refine tk 2 22 (.agg #[tx gn,.int .i64 ge,.slice ua um uc]) rfl (fun W hSw=>by exact zar 138 _ rfl wr.heap.size #[tx gn,.int .i64 ge,.slice ua um uc] 138 rfl W hSw _ Tryz.underlying138 rfl 3 zgq rfl) p5 ?_
   simp only [Act.put,pB,pC,pD]
   refine wpAnyH_ready (rs:=[1,3]) (by kernel_rfl) (by simp) ?_
   refine AllReadyH.cons rfl (fun K hK=>?_) (AllReadyH.cons rfl (fun K hK=>?_) AllReadyH.nil)
   ·
    have k_:=(zaa qr5 1).trans rfl
    go_simp
    refine hK.out _ _ ?_ (fun _=>?_)
    ·
     exact p5
    clear hK K
    refine wpAnyH_ready (rs:=[3]) (by kernel_rfl) (by simp) ?_
    refine aR rfl fun K hK=>?_
    go_simp
    refine (hdn _).mono ?_
    rintro e w6 ⟨rfl,b6⟩
    have p6:=zab b6 p5
    have pr6:=zab b6 pr5
    have qr6:=zab b6 qr5
    have B6:=Below.chain B5 b6
    have own6:=zal own5 (Off.of b6 []) (fun _ hx=>by cases hx)
    have zz6:=b6.size
    refine hK.out _ _ ?_ (fun _=>?_)
    ·
     exact p6
    clear hK K
    refine wpAnyH_ready (rs:=[4]) (by kernel_rfl) (by simp) ?_
    refine aR rfl fun K hK=>?_
    have n7:=zac w6 (.cells #[tx gn,.int .i64 ge,.slice ua um uc] 62)
    have b7:=bal (Below.refl w6.heap.size w6) (.cells #[tx gn,.int .i64 ge,.slice ua um uc] 62)
    have p7:=zab b7 p6
    have pr7:=zab b7 pr6
    have qr7:=zab b7 qr6
    have B7:=Below.chain B6 b7
    have own7:=zal own6 (Off.of b7 []) (fun _ hx=>by cases hx)
    have zz7:=b7.size
    go_simp
    generalize w6.alloc (.cells #[tx gn,.int .i64 ge,.slice ua um uc] 62) = w7 at *
    refine hK.out _ _ ?_ (fun _=>?_)
    ·
     exact p7
    clear hK K
    refine wpAnyH_ready (rs:=[5]) (by kernel_rfl) (by simp) ?_
    refine aR rfl fun K hK=>?_
    refine zay _ _ (some 25) 37 rfl rfl (by rfl) w.heap.size 62 i0 (.agg #[tx [],.int .i64 0,.slice none 0 0]) 3 48 Tryz.underlying37 hi hz0 hz1 hz2 rfl (by decide) (.slice ao k cap) k (cellsG (c.gs.take k) (vs.take k)) rfl own7 ⟨w6.heap.size,0,none⟩ 1 1 [tx gn,.int .i64 ge,.slice ua um uc] rfl rfl ?hnews ?hone ?h63 ?hby ?hbs ?_
    case hnews=>
     intro j u hu
     rw [Addr.add_lit,Nat.zero_add,zaa n7 j]
     simpa using hu
    case hone=>
     intro u hu
     simp only [List.mem_cons,List.not_mem_nil,or_false] at hu
     rcases hu with rfl | rfl | rfl <;> rfl
    case h63=>unfold maxLen;omega
    case hby=>omega
    case hbs=>exact B7.size
    intro v' w8 own8 hg8 hat8
    have o8:=zas hg8
    have p8:=o8.heap p7 (fun hm=>zap own7 p7 (by decide) (by simpa using hm))
    have pr8:=o8.heap pr7 (fun hm=>zap own7 pr7 (by decide) (by simpa using hm))
    have qr8:=o8.heap qr7 (fun hm=>zap own7 qr7 (by decide) (by simpa using hm))
    have B8:Below w.heap.size w w8:=((Off.of B7 []).trans o8 (fun y hy=>Or.inr (zan own7 y (by simpa using hy)).1)).below (by simp)
    obtain ⟨ao',cap',rfl⟩:=zav own8
    refine hK.out _ _ ?_ (fun _=>?_)
    ·
     exact p8
    clear hK K
    refine tk 6 26 (.pointer (some ⟨w.heap.size + 1,1,none⟩)) rfl (fun W hSw=>by go_simp) p8 ?_
    simp only [Act.put,pB,pC,pD]
    refine wpAnyH_ready (rs:=[7]) (by kernel_rfl) (by simp) ?_
    refine aR rfl fun K hK=>?_
    refine zbv 37 _ _ none rfl rfl (by rfl) (w.heap.size + 1) 1 (.slice ao' (k + 1) cap') rfl rfl #[.slice al c.rl.length cl,.slice ao k cap] 39 qr8 (by simp) rz37 rfl #[.slice al c.rl.length cl,.slice ao' (k + 1) cap'] rfl ?_
    intro w9 q9 o9 z9
    have p9:=o9.heap p8 (by simp;omega)
    have pr9:=o9.heap pr8 (by simp)
    have B9:=((Off.of B8 []).trans o9 (by simp)).below (by simp)
    have own9:=zei own8 o9 qr8 (by decide)
    refine hK.out _ _ ?_ (fun _=>?_)
    ·
     exact p9
    clear hK K
    refine wpAnyH_done (by kernel_rfl) ?_ _
    refine NoPanic.normal ?_
    go_wp2_with fail
    go_roundw
    case rel=>exact ⟨k + 1,_,by omega,by go_num,B9,pr9,q9,by rw [HE.out];exact own9⟩
    case measure=>simp [intOf];omega
   go_simp
   refine (hdn _).mono ?_
   rintro e w6 ⟨rfl,b6⟩
   have p6:=zab b6 p5
   have pr6:=zab b6 pr5
   have qr6:=zab b6 qr5
   have B6:=Below.chain B5 b6
   have own6:=zal own5 (Off.of b6 []) (fun _ hx=>by cases hx)
   have zz6:=b6.size
   refine hK.out _ _ ?_ (fun _=>?_)
   ·
    exact p6
   clear hK K
   refine wpAnyH_ready (rs:=[1,4]) (by kernel_rfl) (by simp) ?_
   refine AllReadyH.cons rfl (fun K hK=>?_) (AllReadyH.cons rfl (fun K hK=>?_) AllReadyH.nil)
   ·
    have k_:=(zaa qr6 1).trans rfl
    go_simp
    refine hK.out _ _ ?_ (fun _=>?_)
    ·
     exact p6
    clear hK K
    refine wpAnyH_ready (rs:=[4]) (by kernel_rfl) (by simp) ?_
    refine aR rfl fun K hK=>?_
    have n7:=zac w6 (.cells #[tx gn,.int .i64 ge,.slice ua um uc] 62)
    have b7:=bal (Below.refl w6.heap.size w6) (.cells #[tx gn,.int .i64 ge,.slice ua um uc] 62)
    have p7:=zab b7 p6
    have pr7:=zab b7 pr6
    have qr7:=zab b7 qr6
    have B7:=Below.chain B6 b7
    have own7:=zal own6 (Off.of b7 []) (fun _ hx=>by cases hx)
    have zz7:=b7.size
    go_simp
    generalize w6.alloc (.cells #[tx gn,.int .i64 ge,.slice ua um uc] 62) = w7 at *
    refine hK.out _ _ ?_ (fun _=>?_)
    ·
     exact p7
    clear hK K
    refine wpAnyH_ready (rs:=[5]) (by kernel_rfl) (by simp) ?_
    refine aR rfl fun K hK=>?_
    refine zay _ _ (some 25) 37 rfl rfl (by rfl) w.heap.size 62 i0 (.agg #[tx [],.int .i64 0,.slice none 0 0]) 3 48 Tryz.underlying37 hi hz0 hz1 hz2 rfl (by decide) (.slice ao k cap) k (cellsG (c.gs.take k) (vs.take k)) rfl own7 ⟨w6.heap.size,0,none⟩ 1 1 [tx gn,.int .i64 ge,.slice ua um uc] rfl rfl ?hnews ?hone ?h63 ?hby ?hbs ?_
    case hnews=>
     intro j u hu
     rw [Addr.add_lit,Nat.zero_add,zaa n7 j]
     simpa using hu
    case hone=>
     intro u hu
     simp only [List.mem_cons,List.not_mem_nil,or_false] at hu
     rcases hu with rfl | rfl | rfl <;> rfl
    case h63=>unfold maxLen;omega
    case hby=>omega
    case hbs=>exact B7.size
    intro v' w8 own8 hg8 hat8
    have o8:=zas hg8
    have p8:=o8.heap p7 (fun hm=>zap own7 p7 (by decide) (by simpa using hm))
    have pr8:=o8.heap pr7 (fun hm=>zap own7 pr7 (by decide) (by simpa using hm))
    have qr8:=o8.heap qr7 (fun hm=>zap own7 qr7 (by decide) (by simpa using hm))
    have B8:Below w.heap.size w w8:=((Off.of B7 []).trans o8 (fun y hy=>Or.inr (zan own7 y (by simpa using hy)).1)).below (by simp)
    obtain ⟨ao',cap',rfl⟩:=zav own8
    refine hK.out _ _ ?_ (fun _=>?_)
    ·
     exact p8
    clear hK K
    refine tk 6 26 (.pointer (some ⟨w.heap.size + 1,1,none⟩)) rfl (fun W hSw=>by go_simp) p8 ?_
    simp only [Act.put,pB,pC,pD]
    refine wpAnyH_ready (rs:=[7]) (by kernel_rfl) (by simp) ?_
    refine aR rfl fun K hK=>?_
    refine zbv 37 _ _ none rfl rfl (by rfl) (w.heap.size + 1) 1 (.slice ao' (k + 1) cap') rfl rfl #[.slice al c.rl.length cl,.slice ao k cap] 39 qr8 (by simp) rz37 rfl #[.slice al c.rl.length cl,.slice ao' (k + 1) cap'] rfl ?_
    intro w9 q9 o9 z9
    have p9:=o9.heap p8 (by simp;omega)
    have pr9:=o9.heap pr8 (by simp)
    have B9:=((Off.of B8 []).trans o9 (by simp)).below (by simp)
    have own9:=zei own8 o9 qr8 (by decide)
    refine hK.out _ _ ?_ (fun _=>?_)
    ·
     exact p9
    clear hK K
    refine wpAnyH_done (by kernel_rfl) ?_ _
    refine NoPanic.normal ?_
    go_wp2_with fail
    go_roundw
    case rel=>exact ⟨k + 1,_,by omega,by go_num,B9,pr9,q9,by rw [HE.out];exact own9⟩
    case measure=>simp [intOf];omega
   have n7:=zac w6 (.cells #[tx gn,.int .i64 ge,.slice ua um uc] 62)
   have b7:=bal (Below.refl w6.heap.size w6) (.cells #[tx gn,.int .i64 ge,.slice ua um uc] 62)
   have p7:=zab b7 p6
   have pr7:=zab b7 pr6
   have qr7:=zab b7 qr6
   have B7:=Below.chain B6 b7
   have own7:=zal own6 (Off.of b7 []) (fun _ hx=>by cases hx)
   have zz7:=b7.size
   go_simp
   generalize w6.alloc (.cells #[tx gn,.int .i64 ge,.slice ua um uc] 62) = w7 at *
   refine hK.out _ _ ?_ (fun _=>?_)
   ·
    exact p7
   clear hK K
   refine wpAnyH_ready (rs:=[1]) (by kernel_rfl) (by simp) ?_
   refine aR rfl fun K hK=>?_
   have k_:=(zaa qr7 1).trans rfl
   go_simp
   refine hK.out _ _ ?_ (fun _=>?_)
   ·
    exact p7
   clear hK K
   refine wpAnyH_ready (rs:=[5]) (by kernel_rfl) (by simp) ?_
   refine aR rfl fun K hK=>?_
   refine zay _ _ (some 25) 37 rfl rfl (by rfl) w.heap.size 62 i0 (.agg #[tx [],.int .i64 0,.slice none 0 0]) 3 48 Tryz.underlying37 hi hz0 hz1 hz2 rfl (by decide) (.slice ao k cap) k (cellsG (c.gs.take k) (vs.take k)) rfl own7 ⟨w6.heap.size,0,none⟩ 1 1 [tx gn,.int .i64 ge,.slice ua um uc] rfl rfl ?hnews ?hone ?h63 ?hby ?hbs ?_
   case hnews=>
    intro j u hu
    rw [Addr.add_lit,Nat.zero_add,zaa n7 j]
    simpa using hu
   case hone=>
    intro u hu
    simp only [List.mem_cons,List.not_mem_nil,or_false] at hu
    rcases hu with rfl | rfl | rfl <;> rfl
   case h63=>unfold maxLen;omega
   case hby=>omega
   case hbs=>exact B7.size
   intro v' w8 own8 hg8 hat8
   have o8:=zas hg8
   have p8:=o8.heap p7 (fun hm=>zap own7 p7 (by decide) (by simpa using hm))
   have pr8:=o8.heap pr7 (fun hm=>zap own7 pr7 (by decide) (by simpa using hm))
   have qr8:=o8.heap qr7 (fun hm=>zap own7 qr7 (by decide) (by simpa using hm))
   have B8:Below w.heap.size w w8:=((Off.of B7 []).trans o8 (fun y hy=>Or.inr (zan own7 y (by simpa using hy)).1)).below (by simp)
   obtain ⟨ao',cap',rfl⟩:=zav own8
   refine hK.out _ _ ?_ (fun _=>?_)
   ·
    exact p8
   clear hK K
   refine tk 6 26 (.pointer (some ⟨w.heap.size + 1,1,none⟩)) rfl (fun W hSw=>by go_simp) p8 ?_
   simp only [Act.put,pB,pC,pD]
   refine wpAnyH_ready (rs:=[7]) (by kernel_rfl) (by simp) ?_
   refine aR rfl fun K hK=>?_
   refine zbv 37 _ _ none rfl rfl (by rfl) (w.heap.size + 1) 1 (.slice ao' (k + 1) cap') rfl rfl #[.slice al c.rl.length cl,.slice ao k cap] 39 qr8 (by simp) rz37 rfl #[.slice al c.rl.length cl,.slice ao' (k + 1) cap'] rfl ?_
   intro w9 q9 o9 z9
   have p9:=o9.heap p8 (by simp;omega)
   have pr9:=o9.heap pr8 (by simp)
   have B9:=((Off.of B8 []).trans o9 (by simp)).below (by simp)
   have own9:=zei own8 o9 qr8 (by decide)
   refine hK.out _ _ ?_ (fun _=>?_)
   ·
    exact p9
   clear hK K
   refine wpAnyH_done (by kernel_rfl) ?_ _
   refine NoPanic.normal ?_
   go_wp2_with fail
   go_roundw
   case rel=>exact ⟨k + 1,_,by omega,by go_num,B9,pr9,q9,by rw [HE.out];exact own9⟩
   case measure=>simp [intOf];omega
  have hlt':¬ (k:Int) < n:=by omega
  have hkn:k = n:=by omega
  subst hkn
  have own':wr.ownsRow w.heap.size 62 3 (.slice ao k cap) k (cellsG c.gs vs):=by
   have e1:c.gs.take k = c.gs:=List.take_of_length_le (by rw [HN.out];exact Nat.le_refl _)
   have e2:vs.take k = vs:=List.take_of_length_le (by rw [HL.out];exact Nat.le_refl _)
   rw [e1,e2] at own
   exact own
  have HF:Hid _:=HC.out
  clear HC HX HV own
  go_wp2_with (first | (refine zaj rfl 39 _ rfl (w.heap.size + 1) #[.slice al c.rl.length cl,.slice ao k cap] 39 rfl qr _ Tryz.underlying39 rfl 2 rz39 rfl ?_) | (refine zad rfl 39 _ _ rfl w.heap.size #[.slice al c.rl.length cl,.slice ao k cap] rfl rfl _ 39 pr 2 rz39 rfl ⟨rfl,rfl⟩ ?_;intro w9 q9 o9 z9))
  have B9:=((Off.of B []).trans o9 (by simp)).below (by simp)
  have own9:=zei own' o9 pr (by decide)
  exact bodyPost_ret (zak Tryz.results52 _ _ w.heap.size 39 #[.slice al c.rl.length cl,.slice ao k cap] _ rfl q9 Tryz.underlying39 rfl 2 rz39 rfl) rfl ⟨_,rfl,HF.out w9 _ B9 own9,rfl,⟨rfl,rfl⟩,B9⟩
end Go.Proofs.YtjlaihekocjggaaGreatDoor
