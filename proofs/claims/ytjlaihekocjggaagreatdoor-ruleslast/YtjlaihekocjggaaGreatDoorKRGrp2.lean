/- Texts that the others lean on. -/
import Derived.Test.YtjlaihekocjggaaGreatDoorKRGrp
import Derived.Test.YtjlaihekocjggaaGreatDoorKRPl
set_option maxHeartbeats 16000000
namespace Go.Proofs.YtjlaihekocjggaaGreatDoor
open Go.RowKit
theorem zbi {w:World} {ops:Array Oper} {rest:List Oper} {o:Oper} {a:Act} {Q:Exit → Act → World → Prop} (hgd:o.guard = none) (ty:TypeId) (x:Operand) (ho:o.op = .load ty x) (b off:Nat) (cs:Array Value) (hx:a.eval x = .pointer (some ⟨b,off,none⟩)) (hr:w.rangeAt b off cs.toList) (d:TypeDesc) (hu:Tryz.prog.underlying ty = some d) (hd:d.isRow = true) (n:Nat) (hi:(Tryz.prog.info? ty).map (·.size) = some n) (hn:cs.size = n)
  (h:wpList Tryz.prog ops Q rest (a.put o.dst (.agg cs)) w):wpList Tryz.prog ops Q (o :: rest) a w:=by
 refine wpList_load_mid hgd ty x ho b off hx cs.toList d hr hu hd (by rw [hi,← hn];simp) ?_
 simpa using h
theorem zes {w w':World} {b o:Nat} {cs:List Value} (h:w.rangeAt b o cs) (hb:Below w.heap.size w w'):w'.rangeAt b o cs:=zfw h (Off.of hb []) (by simp)
def Gv (w:World) (ao:Option Addr) (gs:List Gr):Prop:=∀ (i:Nat) g,gs[i]? = some g → ∃ b off a m c,ao = some ⟨b,off,none⟩ ∧ w.rangeAt b (off + i * 3) [tx g.name,.int .i64 g.ev,.slice a m c]
theorem Gv.later {w w':World} {ao:Option Addr} {gs:List Gr} (h:Gv w ao gs) (hb:Below w.heap.size w w'):Gv w' ao gs:=fun i g hi=>by
 obtain ⟨b,off,a,m,c,e,hr⟩:=h i g hi
 exact ⟨b,off,a,m,c,e,zes hr hb⟩
theorem zem:∀ (gs:List Gr) (vs:List Value) (i:Nat) (g:Gr) (v:Value),gs[i]? = some g → vs[i]? = some v → (cellsG gs vs)[i * 3]? = some (tx g.name) ∧ (cellsG gs vs)[i * 3 + 1]? = some (.int .i64 g.ev) ∧ (cellsG gs vs)[i * 3 + 2]? = some v
 | [],_,i,g,v,h,_=>by simp at h
 | _ :: _,[],i,g,v,_,h=>by simp at h
 | g0 :: gs,v0 :: vs,0,g,v,h,h2=>by
  simp at h h2
  subst h h2
  exact ⟨rfl,rfl,rfl⟩
 | g0 :: gs,v0 :: vs,i + 1,g,v,h,h2=>by
  have:=zem gs vs i g v (by simpa using h) (by simpa using h2)
  have e:cellsG (g0 :: gs) (v0 :: vs) = [tx g0.name,.int .i64 g0.ev,v0] ++ cellsG gs vs:=rfl
  rw [e,show (i + 1) * 3 = 3 + i * 3 by omega]
  refine ⟨?_,?_,?_⟩
  ·
   rw [List.getElem?_append_right (by simp)];simpa using this.1
  ·
   rw [List.getElem?_append_right (by simp;omega)];simpa [Nat.add_assoc,Nat.add_sub_cancel_left] using this.2.1
  rw [List.getElem?_append_right (by simp;omega)];simpa [Nat.add_assoc,Nat.add_sub_cancel_left] using this.2.2
theorem zav {w:World} {base size n:Nat} {e:TypeId} {v:Value} {cs:List Value} (h:w.ownsRow base e size v n cs):∃ ao cap,v = .slice ao n cap:=by
 rcases h.2 with ⟨rfl,h0⟩ | ⟨g,cap,cur,rfl,_⟩
 ·
  subst h0;exact ⟨_,_,rfl⟩
 exact ⟨_,_,rfl⟩
theorem Rdg.view {base:Nat} {F:Nat → Prop} {w:World} {b:Nat} {c:Cf} {vr vg:Value} {vs:List Value} (h:Rdg base F w b c vr vg vs):∃ ao cap,vg = .slice ao c.gs.length cap ∧ Gv w ao c.gs:=by
 rcases h.gs.2 with ⟨e,h0⟩ | ⟨g,cap,cur,e,hb0,hc,hn,hm,hs,ht⟩
 ·
  refine ⟨none,0,by rw [e,h0],fun i g hi=>?_⟩
  have:=(List.getElem?_eq_some_iff.1 hi).1
  omega
 refine ⟨some ⟨g,0,none⟩,cap,e,fun i gr hi=>?_⟩
 have hlt:=(List.getElem?_eq_some_iff.1 hi).1
 obtain ⟨v,hv,hr⟩:=h.rs i gr hi
 obtain ⟨cs,ho⟩:=hr.own
 obtain ⟨a,m,rfl⟩:=zav ho
 obtain ⟨k0,k1,k2⟩:=zem c.gs vs i gr _ hi hv
 refine ⟨g,0,a,gr.rs.length,m,rfl,?_⟩
 intro j u hu
 have key:∀ j u,j < c.gs.length * 3 → (cellsG c.gs vs)[j]? = some u → w.cell? ⟨g,j,none⟩ = some u:=fun j u hj hq=>by
  rw [cell_of_row _ _ _ _ _ _ hc,← hq,← ht,List.getElem?_take_of_lt hj]
  simp
 match j,hu with
 | 0,hu=>simp at hu;subst hu;exact key _ _ (by omega) (by simpa using k0)
 | 1,hu=>simp at hu;subst hu;exact key _ _ (by omega) (by simpa using k1)
 | 2,hu=>simp at hu;subst hu;exact key _ _ (by omega) (by simpa using k2)
 | j + 3,hu=>simp at hu
theorem idxG_any {w:World} {ao:Option Addr} {cap n:Nat} (gs:List Gr) (hl:gs.length = n) (hn:n ≤ 1000000) (hb:Nat) (s:Str) (x:Int) (hh:w.heap[hb]? = some (.cells #[tx s,.int .i64 x] 136)) (hk:Gv w ao gs) :
  Calls Tryz.prog 235 #[.slice ao n cap,.func (.func 168) #[] #[.pointer (some ⟨hb,0,none⟩)]] w fun e w'=>∃ k:Int,e = .returned (.int .i64 k) ∧ Hid ((gs.any (fun g=>g.name == s) = true ∧ 0 ≤ k) ∨ (gs.any (fun g=>g.name == s) = false ∧ ¬ 0 ≤ k)) ∧ Below w.heap.size w w':=by
 have HK:Hid (Gv w ao gs):=hk
 have HN:Hid (gs.length = n):=hl
 clear hk hl
 obtain ⟨Q,HQ⟩:∃ Q,Hid (gs.any (fun g=>g.name == s) = Q):=⟨_,(rfl:gs.any (fun g=>g.name == s) = gs.any (fun g=>g.name == s))⟩
 rw [HQ.out]
 go_enter Tryz.func235,Tryz.ntmps235
 go_wp2_with fail
 go_loopw [8] (fun i wr=>∃ k:Nat,k ≤ n ∧ i = .int .i64 k ∧ Below w.heap.size w wr ∧ Hid (∀ (j:Nat) g,j < k → gs[j]? = some g → (g.name == s) = false)) (fun i _=>n - (intOf i).toNat)
 case atStart=>exact ⟨0,by omega,rfl,Below.refl _ _,fun j g hj=>by omega⟩
 case round=>
  obtain ⟨k,hk,rfl,B,HA⟩:=hrel
  by_cases hlt:k < n
  ·
   have hlt':(k:Int) < n:=by omega
   obtain ⟨g,hg⟩:∃ g,gs[k]? = some g:=⟨_,List.getElem?_eq_getElem (by have:=HN.out;omega)⟩
   obtain ⟨b,off,a,m,c,ea,hr⟩:=(Gv.later HK.out B) k g hg
   subst ea
   have hh1:=zab B hh
   have hnm:=fun W (hW:W.heap[hb]? = some (.cells #[tx s,.int .i64 x] 136))=>zou g.name g.ev (.slice a m c) hb s x W ⟨_,_,_,rfl⟩ hW
   have HY:Hid ((g.name == s) = true → gs.any (fun g=>g.name == s) = true):=fun h=>List.any_eq_true.2 ⟨g,List.mem_of_getElem? hg,h⟩
   have HS:Hid ((g.name == s) = false → ∀ (j:Nat) g,j < k + 1 → gs[j]? = some g → (g.name == s) = false):=fun h j g2 hj h2=>by
    by_cases e:j = k
    ·
     subst e
     rw [hg] at h2
     cases h2
     exact h
    exact HA.out j g2 (by omega) h2
   clear HA HK hg
   generalize hq:(g.name == s) = q at *
   clear hq
   cases q with
   | true=>
    have HR:=HY.out rfl
    have HR:Hid _:=HR
    clear HY HS
    go_wp2_with (refine zbi rfl 138 _ rfl b (off + k * 3) #[tx g.name,.int .i64 g.ev,.slice a m c] rfl hr _ Tryz.underlying138 rfl 3 zgq rfl ?_)
    refine (hnm _ hh1).mono ?_
    rintro e w2 ⟨rfl,b2⟩
    go_wp2_with fail
    go_ret
    exact ⟨_,rfl,Or.inl ⟨by rw [← HQ.out];exact HR.out,by omega⟩,Below.chain B b2⟩
   | false=>
    have HR:=HS.out rfl
    have HR:Hid _:=HR
    clear HY HS
    go_wp2_with (refine zbi rfl 138 _ rfl b (off + k * 3) #[tx g.name,.int .i64 g.ev,.slice a m c] rfl hr _ Tryz.underlying138 rfl 3 zgq rfl ?_)
    refine (hnm _ hh1).mono ?_
    rintro e w2 ⟨rfl,b2⟩
    go_wp2_with fail
    go_roundw
    case rel=>exact ⟨k + 1,by omega,by go_num,Below.chain B b2,HR⟩
    case measure=>simp [intOf];omega
  have hlt':¬ (k:Int) < n:=by omega
  have HR:Hid (gs.any (fun g=>g.name == s) = false):=by
   show _ = _
   rw [List.any_eq_false]
   intro g hg
   obtain ⟨j,hj⟩:=List.getElem?_of_mem hg
   have:=HA.out j g (by have:=(List.getElem?_eq_some_iff.1 hj).1;have:=HN.out;omega) hj
   simp [this]
  clear HA HK
  go_wp2_with fail
  go_ret
  exact ⟨_,rfl,Or.inr ⟨by rw [← HQ.out];exact HR.out,by omega⟩,B⟩
theorem conG_any {w:World} {ao:Option Addr} {cap n:Nat} (gs:List Gr) (hl:gs.length = n) (hn:n ≤ 1000000) (hb:Nat) (s:Str) (x:Int) (hh:w.heap[hb]? = some (.cells #[tx s,.int .i64 x] 136)) (hk:Gv w ao gs) :
  Calls Tryz.prog 167 #[.slice ao n cap,.func (.func 168) #[] #[.pointer (some ⟨hb,0,none⟩)]] w fun e w'=>e = .returned (.bool (gs.any (fun g=>g.name == s))) ∧ Below w.heap.size w w':=by
 have hi:=idxG_any (cap:=cap) gs hl hn hb s x hh hk
 clear hk hh
 generalize gs.any (fun g=>g.name == s) = q at *
 go_enter Tryz.func167,Tryz.ntmps167
 go_wp2_with fail
 refine hi.mono ?_
 rintro e w1 ⟨k,rfl,HK,b1⟩
 rcases HK.out with ⟨rfl,h0⟩ | ⟨rfl,h0⟩
 ·
  go_wp2_with fail
  go_ret
  exact ⟨by first | rfl | simp [h0],b1⟩
 go_wp2_with fail
 go_ret
 exact ⟨by first | rfl | simp [h0],b1⟩
def Kt (w w':World):Prop:=∀ (x:Nat) (cs:Array Value) (t:TypeId),w.heap[x]? = some (.cells cs t) → (t == 84 || t == 59 || t == 138 || t == 65) = false → w'.heap[x]? = some (.cells cs t)
theorem Kt.refl (w:World):Kt w w:=fun _ _ _ h _=>h
theorem Kt.trans {a b c:World} (h:Kt a b) (k:Kt b c):Kt a c:=fun x cs t hx ht=>k x cs t (h x cs t hx ht) ht
theorem Kt.later {a w w':World} (h:Kt a w) (hb:Below w.heap.size w w'):Kt a w':=fun x cs t hx ht=>zab hb (h x cs t hx ht)
theorem Kt.own {a w w':World} {base size n:Nat} {e:TypeId} {v:Value} {cs:List Value} (h:Kt a w) (ho:w.ownsRow base e size v n cs) (hg:w.grownBy w' v.ownBlock) (he:(e == 84 || e == 59 || e == 138 || e == 65) = true):Kt a w':=fun x ds t hx ht=>by
 have hw:=h x ds t hx ht
 refine (zas hg).heap hw (fun hm=>zap ho hw (fun e2=>?_) (by simpa using hm))
 rw [e2,ht] at he
 cases he
theorem Kt.st {a w w':World} {b:Nat} {e:TypeId} {cs:Array Value} (h:Kt a w) (hb:w.heap[b]? = some (.cells cs e)) (he:(e == 84 || e == 59 || e == 138 || e == 65) = true) (o:Off [b] w w'):Kt a w':=fun x ds t hx ht=>by
 have hw:=h x ds t hx ht
 refine o.heap hw (fun hm=>?_)
 have hm:x = b:=by simpa using hm
 subst hm
 refine zbf hw hb (fun e2=>?_) rfl
 rw [← e2,ht] at he
 cases he
theorem Kt.fresh {a w w':World} {b:Nat} (h:Kt a w) (o:Off [b] w w') (hb:a.heap.size ≤ b):Kt a w':=fun x ds t hx ht=>by
 have hw:=h x ds t hx ht
 have:=zah hx
 exact o.heap hw (by simp;omega)
theorem rz82:(Tryz.prog.info? 82).map (·.size) = some 1:=by kernel_rfl
theorem Rdg.off9 {base:Nat} {F:Nat → Prop} {w w':World} {b x:Nat} {c:Cf} {vr vg:Value} {vs:List Value} (h:Rdg base F w b c vr vg vs) (ho:Off [x] w w') (hF:b ≠ x ∧ ¬ F x) {cs:Array Value} (hx:w.heap[x]? = some (.cells cs 87)):Rdg base F w' b c vr vg vs:=by
 have one:∀ y ∈ [x],y = x:=fun y hy=>by simpa using hy
 refine ⟨h.bb,ho.heap h.hd (by simpa using hF.1),zal h.rl ho (fun y hy=>by rw [one y hy];exact zap h.rl hx (by decide)),zal h.gs ho (fun y hy=>by rw [one y hy];exact zap h.gs hx (by decide)),h.len,fun i g hi=>?_,h.ap,fun y hy=>?_⟩
 ·
  obtain ⟨v,hv,hr⟩:=h.rs i g hi
  obtain ⟨cs,hc⟩:=hr.own
  exact ⟨v,hv,hr.off ho (fun y hy hq=>by rw [one y hy] at hq;exact hF.2 hq) (fun y hy=>by rw [one y hy];exact zap hc hx (by decide))⟩
 obtain ⟨f1,f2⟩:=h.fr y hy
 have:=ho.size
 exact ⟨by omega,f2⟩
/-! ### What taking a line leaves -/
def TkOut (wb w:World) (F:Nat → Prop) (b:Nat) (res:Cf ⊕ (Int × Int)) (e:Ending) (w':World):Prop:=
 Below wb.heap.size wb w' ∧ Kt w w' ∧ match res with
 | .inl c'=>e = .returned (.agg #[.int .i64 0,.int .i64 0]) ∧ ∃ F' vr vg vs,(∀ x,F' x → F x ∨ w.heap.size ≤ x) ∧ Rdg wb.heap.size F' w' b c' vr vg vs
 | .inr x=>e = .returned (.agg #[.int .i64 x.1,.int .i64 x.2])
theorem info138:(Tryz.prog.info? 138).map (fun i=>(i.zero,i.size,i.bytes)) = some (some (.agg #[tx [],.int .i64 0,.slice none 0 0]),3,48):=by kernel_rfl
theorem zig:∃ i,Tryz.prog.info? 138 = some i ∧ i.zero = some (.agg #[tx [],.int .i64 0,.slice none 0 0]) ∧ i.size = 3 ∧ i.bytes = 48:=by
 have h:=info138
 cases hi:Tryz.prog.info? 138 with
 | none=>rw [hi] at h;cases h
 | some i=>
  rw [hi] at h
  simp only [Option.map_some,Option.some.injEq,Prod.mk.injEq] at h
  exact ⟨i,rfl,h.1,h.2.1,h.2.2⟩
set_option maxRecDepth 20000 in
theorem takeG_any {wb w:World} {F:Nat → Prop} {b:Nat} {c:Cf} {vr vg:Value} {vs:List Value} (h:Rdg wb.heap.size F w b c vr vg vs) (he:Ev wb) (hB:Below wb.heap.size wb w) (hc3:c.gs.length ≤ 3) (l:Str) (hs:l.length ≤ 90000) :
  Calls Tryz.prog 92 #[.pointer (some ⟨b,0,none⟩),tx l] w (TkOut wb w F b (stG c l)):=by
 have hB0:Below wb.heap.size wb (w.alloc (.cells #[.int .i64 0,.int .i64 0] 87)):=bal hB (.cells #[.int .i64 0,.int .i64 0] 87)
 have kT0:Kt w (w.alloc (.cells #[.int .i64 0,.int .i64 0] 87)):=(Kt.refl w).later (bal (Below.refl w.heap.size w) (.cells #[.int .i64 0,.int .i64 0] 87))
 have h0:=h.later (bal (Below.refl w.heap.size w) (.cells #[.int .i64 0,.int .i64 0] 87))
 have q0:=zac w (.cells #[.int .i64 0,.int .i64 0] 87)
 have hzz:=h.lt
 have hzb:=hB.size
 have hho:=zot l (w.alloc (.cells #[.int .i64 0,.int .i64 0] 87)) (by omega) (he.later hB0)
 have hnF:¬ F w.heap.size:=fun hq=>by have:=(h.fr _ hq).1;omega
 unfold stG
 clear h hB he
 generalize hdOf l = o at *
 cases o with
 | none=>
  go_enter Tryz.func92,Tryz.ntmps92
  go_wp2_with fail
  generalize w.alloc (.cells #[.int .i64 0,.int .i64 0] 87) = w0 at *
  refine hho.mono ?_
  rintro e w1 ⟨rfl,b1⟩
  have q1:=zab b1 q0
  have hB1:=hB0.trans (b1.mono hB0.size)
  have kT1:=kT0.later b1
  have z1:=zah q1
  go_wp2_with (first | (refine zad rfl 136 _ _ rfl w1.heap.size #[.string ⟨#[]⟩,.int .i64 0] rfl rfl _ 136 (zac w1 (.cells #[.string ⟨#[]⟩,.int .i64 0] 136)) 2 zcp rfl ⟨rfl,rfl⟩ ?_;intro w3 p3 o3 z3;have b13:=((Off.of (bal (Below.refl w1.heap.size w1) (.cells #[.string ⟨#[]⟩,.int .i64 0] 136)) []).trans o3 (by simp)).below (by simp);have q3:=zab b13 q1;have hB3:=hB1.trans (b13.mono hB1.size);have kT3:=kT1.later b13) | (refine zad rfl 87 _ _ rfl w.heap.size #[.int .i64 0,.int .i64 12] rfl rfl _ 87 q3 2 rz87 rfl ⟨rfl,rfl⟩ ?_;intro w9 q9 o9 z9))
  exact bodyPost_ret (zak Tryz.results92 _ _ w.heap.size 87 #[.int .i64 0,.int .i64 12] _ rfl q9 Tryz.underlying87 rfl 2 rz87 rfl) rfl ⟨((Off.of hB3 []).trans o9 (by simp;omega)).below (by simp),kT3.fresh o9 (Nat.le_refl _),rfl⟩
 | some hd=>
  obtain ⟨nn,yy⟩:=hd
  by_cases h3:c.gs.length = 3
  ·
   have e3:((c.gs.length:Int) == 3) = true:=by rw [beq_iff_eq];omega
   dsimp only
   rw [if_pos h3]
   go_enter Tryz.func92,Tryz.ntmps92
   go_wp2_with fail
   generalize w.alloc (.cells #[.int .i64 0,.int .i64 0] 87) = w0 at *
   refine hho.mono ?_
   rintro e w1 ⟨rfl,b1⟩
   have h1:=h0.later b1
   have q1:=zab b1 q0
   have hB1:=hB0.trans (b1.mono hB0.size)
   have kT1:=kT0.later b1
   have z1:=zah q1
   obtain ⟨ao,cap,rfl,gv⟩:=h1.view
   go_wp2_with (first | (refine zad rfl 136 _ _ rfl w1.heap.size #[tx nn,.int .i64 yy] rfl rfl _ 136 (zac w1 (.cells #[.string ⟨#[]⟩,.int .i64 0] 136)) 2 zcp rfl ⟨rfl,rfl⟩ ?_;intro w3 p3 o3 z3;have b13:=((Off.of (bal (Below.refl w1.heap.size w1) (.cells #[.string ⟨#[]⟩,.int .i64 0] 136)) []).trans o3 (by simp)).below (by simp);have q3:=zab b13 q1;have hB3:=hB1.trans (b13.mono hB1.size);have kT3:=kT1.later b13;have h3':=h1.later b13;have d1:=(zaa h3'.hd 1).trans rfl) | (refine zad rfl 87 _ _ rfl w.heap.size #[.int .i64 0,.int .i64 32] rfl rfl _ 87 q3 2 rz87 rfl ⟨rfl,rfl⟩ ?_;intro w9 q9 o9 z9))
   exact bodyPost_ret (zak Tryz.results92 _ _ w.heap.size 87 #[.int .i64 0,.int .i64 32] _ rfl q9 Tryz.underlying87 rfl 2 rz87 rfl) rfl ⟨((Off.of hB3 []).trans o9 (by simp;omega)).below (by simp),kT3.fresh o9 (Nat.le_refl _),rfl⟩
  dsimp only
  rw [if_neg h3]
  have e3:((c.gs.length:Int) == 3) = false:=by rw [beq_eq_false_iff_ne];omega
  have hco:=fun W hb ao cap hh hk=>conG_any (w:=W) (ao:=ao) (cap:=cap) c.gs rfl (by omega) hb nn yy hh hk
  generalize c.gs.any (fun g=>g.name == nn) = an at *
  cases an with
  | true=>
   rw [if_pos rfl]
   go_enter Tryz.func92,Tryz.ntmps92
   go_wp2_with fail
   generalize w.alloc (.cells #[.int .i64 0,.int .i64 0] 87) = w0 at *
   refine hho.mono ?_
   rintro e w1 ⟨rfl,b1⟩
   have h1:=h0.later b1
   have q1:=zab b1 q0
   have hB1:=hB0.trans (b1.mono hB0.size)
   have kT1:=kT0.later b1
   have z1:=zah q1
   obtain ⟨ao,cap,rfl,gv⟩:=h1.view
   go_wp2_with (refine zad rfl 136 _ _ rfl w1.heap.size #[tx nn,.int .i64 yy] rfl rfl _ 136 (zac w1 (.cells #[.string ⟨#[]⟩,.int .i64 0] 136)) 2 zcp rfl ⟨rfl,rfl⟩ ?_;intro w3 p3 o3 z3;have b13:=((Off.of (bal (Below.refl w1.heap.size w1) (.cells #[.string ⟨#[]⟩,.int .i64 0] 136)) []).trans o3 (by simp)).below (by simp);have q3:=zab b13 q1;have hB3:=hB1.trans (b13.mono hB1.size);have kT3:=kT1.later b13;have h3':=h1.later b13;have d1:=(zaa h3'.hd 1).trans rfl)
   refine (hco _ w1.heap.size ao cap p3 (gv.later b13)).mono ?_
   rintro e w4 ⟨rfl,b4⟩
   have q4:=zab b4 q3
   have hB4:=hB3.trans (b4.mono hB3.size)
   have kT4:=kT3.later b4
   go_wp2_with (refine zad rfl 87 _ _ rfl w.heap.size #[.int .i64 0,.int .i64 31] rfl rfl _ 87 q4 2 rz87 rfl ⟨rfl,rfl⟩ ?_;intro w9 q9 o9 z9)
   exact bodyPost_ret (zak Tryz.results92 _ _ w.heap.size 87 #[.int .i64 0,.int .i64 31] _ rfl q9 Tryz.underlying87 rfl 2 rz87 rfl) rfl ⟨((Off.of hB4 []).trans o9 (by simp;omega)).below (by simp),kT4.fresh o9 (Nat.le_refl _),rfl⟩
  | false=>
   rw [if_neg (by simp)]
   obtain ⟨i0,hi,hz0,hz1,hz2⟩:=zig
   go_enter Tryz.func92,Tryz.ntmps92
   go_wp2_with fail
   generalize w.alloc (.cells #[.int .i64 0,.int .i64 0] 87) = w0 at *
   refine hho.mono ?_
   rintro e w1 ⟨rfl,b1⟩
   have h1:=h0.later b1
   have q1:=zab b1 q0
   have hB1:=hB0.trans (b1.mono hB0.size)
   have kT1:=kT0.later b1
   have z1:=zah q1
   obtain ⟨ao,cap,rfl,gv⟩:=h1.view
   go_wp2_with (refine zad rfl 136 _ _ rfl w1.heap.size #[tx nn,.int .i64 yy] rfl rfl _ 136 (zac w1 (.cells #[.string ⟨#[]⟩,.int .i64 0] 136)) 2 zcp rfl ⟨rfl,rfl⟩ ?_;intro w3 p3 o3 z3;have b13:=((Off.of (bal (Below.refl w1.heap.size w1) (.cells #[.string ⟨#[]⟩,.int .i64 0] 136)) []).trans o3 (by simp)).below (by simp);have q3:=zab b13 q1;have hB3:=hB1.trans (b13.mono hB1.size);have kT3:=kT1.later b13;have h3':=h1.later b13;have d1:=(zaa h3'.hd 1).trans rfl)
   refine (hco _ w1.heap.size ao cap p3 (gv.later b13)).mono ?_
   rintro e w4 ⟨rfl,b4⟩
   have q4:=zab b4 q3
   have p4:=zab b4 p3
   have hB4:=hB3.trans (b4.mono hB3.size)
   have kT4:=kT3.later b4
   have h4:=h3'.later b4
   clear gv hco q3 hB3 h3' h1
   go_upto_region 8 with fail
   have p5:=zab (zag w4) p4
   have q5:=zab (zag w4) q4
   have h5:=h4.later (zag w4)
   have hB5:=hB4.trans ((zag w4).mono hB4.size)
   have kT5:=kT4.later (zag w4)
   have hz4:w1.heap.size < w4.heap.size:=zah p4
   clear p4 q4 h4 hB4
   refine wp_region_noPanic ?_
   refine wp_region_held_drew (S:=fun W=>W.heap[w1.heap.size]? = some (.cells #[tx nn,.int .i64 yy] 136)) (by kernel_rfl) ?_ (fun _=>?_)
   ·
    exact p5
   generalize w4.drew = wd at *
   refine tk 0 32 (.pointer (some ⟨b,0,none⟩)) rfl (fun W hSw=>by go_simp) p5 ?_
   simp only [Act.put,pB,pC,pD]
   refine tk 1 33 (.pointer (some ⟨b,0,none⟩)) rfl (fun W hSw=>by go_simp) p5 ?_
   simp only [Act.put,pB,pC,pD]
   refine tk 2 34 (.pointer (some ⟨b,0,none⟩)) rfl (fun W hSw=>by go_simp) p5 ?_
   simp only [Act.put,pB,pC,pD]
   refine tk 3 35 (.pointer (some ⟨b,1,none⟩)) rfl (fun W hSw=>by go_simp) p5 ?_
   simp only [Act.put,pB,pC,pD]
   refine tk 5 37 (.agg #[tx nn,.int .i64 yy]) rfl (fun W hSw=>by exact zar 136 _ rfl w1.heap.size #[tx nn,.int .i64 yy] 136 rfl W hSw _ Tryz.underlying136 rfl 2 zcp rfl) p5 ?_
   simp only [Act.put,pB,pC,pD]
   refine tk 6 38 (.agg #[tx nn,.int .i64 yy,.slice none 0 0]) rfl (fun W hSw=>by go_simp) p5 ?_
   simp only [Act.put,pB,pC,pD]
   refine wpAnyH_ready (rs:=[4,7]) (by kernel_rfl) (by simp) ?_
   refine AllReadyH.cons rfl (fun K hK=>?_) (AllReadyH.cons rfl (fun K hK=>?_) AllReadyH.nil)
   ·
    have k5:=(zaa h5.hd 1).trans rfl
    go_simp
    refine hK.out _ _ ?_ (fun _=>?_)
    ·
     exact p5
    clear hK K
    refine wpAnyH_ready (rs:=[7]) (by kernel_rfl) (by simp) ?_
    refine aR rfl fun K hK=>?_
    have n6:=zac wd (.cells #[tx nn,.int .i64 yy,.slice none 0 0] 138)
    have B6:=bal (Below.refl wd.heap.size wd) (.cells #[tx nn,.int .i64 yy,.slice none 0 0] 138)
    have h6:=h5.later B6
    have p6:=zab B6 p5
    have q6:=zab B6 q5
    have hB6:=hB5.trans (B6.mono hB5.size)
    have kT6:=kT5.later B6
    go_simp
    generalize wd.alloc (.cells #[tx nn,.int .i64 yy,.slice none 0 0] 138) = w6 at *
    refine hK.out _ _ ?_ (fun _=>?_)
    ·
     exact p6
    clear hK K
    refine wpAnyH_ready (rs:=[8]) (by kernel_rfl) (by simp) ?_
    refine aR rfl fun K hK=>?_
    refine zay _ _ (some 40) 82 rfl rfl (by rfl) wb.heap.size 138 i0 (.agg #[tx [],.int .i64 0,.slice none 0 0]) 3 48 Tryz.underlying82 hi hz0 hz1 hz2 rfl (by decide) (.slice ao c.gs.length cap) c.gs.length (cellsG c.gs vs) rfl h6.gs ⟨wd.heap.size,0,none⟩ 1 1 [tx nn,.int .i64 yy,.slice none 0 0] rfl rfl ?hnews ?hone ?h63 ?hby ?hbs ?_
    case hnews=>
     intro j u hu
     rw [Addr.add_lit,Nat.zero_add,zaa n6 j]
     simpa using hu
    case hone=>
     intro u hu
     simp only [List.mem_cons,List.not_mem_nil,or_false] at hu
     rcases hu with rfl | rfl | rfl <;> rfl
    case h63=>unfold maxLen;omega
    case hby=>omega
    case hbs=>exact hB6.size
    intro v' w7 own7 hg7 hat7
    have o7:=zas hg7
    have p7:=o7.heap p6 (fun hm=>zap h6.gs p6 (by decide) (by simpa using hm))
    have q7:=o7.heap q6 (fun hm=>zap h6.gs q6 (by decide) (by simpa using hm))
    have k7:=o7.heap h6.hd (fun hm=>zap h6.gs h6.hd (by decide) (by simpa using hm))
    have hB7:Below wb.heap.size wb w7:=((Off.of hB6 []).trans o7 (fun y hy=>Or.inr (zan h6.gs y (by simpa using hy)).1)).below (by simp)
    have kT7:=kT6.own h6.gs hg7 (by decide)
    obtain ⟨ao',cap',rfl⟩:=zav own7
    refine hK.out _ _ ?_ (fun _=>?_)
    ·
     exact p7
    clear hK K
    refine tk 9 41 (.pointer (some ⟨b,0,none⟩)) rfl (fun W hSw=>by go_simp) p7 ?_
    simp only [Act.put,pB,pC,pD]
    refine tk 10 42 (.pointer (some ⟨b,1,none⟩)) rfl (fun W hSw=>by go_simp) p7 ?_
    simp only [Act.put,pB,pC,pD]
    refine wpAnyH_ready (rs:=[11]) (by kernel_rfl) (by simp) ?_
    refine aR rfl fun K hK=>?_
    refine zbv 82 _ _ none rfl rfl (by rfl) b 1 (.slice ao' (c.gs.length + 1) cap') rfl rfl #[vr,.slice ao c.gs.length cap] 84 k7 (by simp) rz82 rfl #[vr,.slice ao' (c.gs.length + 1) cap'] rfl ?_
    intro w8 k8 o8 z8
    have h8:=h6.addG nn yy own7 hg7 hat7 k8 o8
    have p8:=o8.heap p7 (by simp;omega)
    have q8:=o8.heap q7 (by simp;omega)
    have hB8:=((Off.of hB7 []).trans o8 (by have:=h6.bb;simp;omega)).below (by simp)
    have kT8:=kT7.st k7 (by decide) o8
    refine hK.out _ _ ?_ (fun _=>?_)
    ·
     exact p8
    clear hK K
    refine wpAnyH_done (by kernel_rfl) ?_ _
    refine NoPanic.normal ?_
    go_wp2_with (refine zad rfl 87 _ _ rfl w.heap.size #[.int .i64 0,.int .i64 0] rfl rfl _ 87 q8 2 rz87 rfl ⟨rfl,rfl⟩ ?_;intro w9 q9 o9 z9)
    exact bodyPost_ret (zak Tryz.results92 _ _ w.heap.size 87 #[.int .i64 0,.int .i64 0] _ rfl q9 Tryz.underlying87 rfl 2 rz87 rfl) rfl ⟨((Off.of hB8 []).trans o9 (by simp;omega)).below (by simp),kT8.fresh o9 (Nat.le_refl _),rfl,F,vr,_,_,fun _ hx=>Or.inl hx,h8.off9 o9 ⟨by omega,hnF⟩ q8⟩
   have n6:=zac wd (.cells #[tx nn,.int .i64 yy,.slice none 0 0] 138)
   have B6:=bal (Below.refl wd.heap.size wd) (.cells #[tx nn,.int .i64 yy,.slice none 0 0] 138)
   have h6:=h5.later B6
   have p6:=zab B6 p5
   have q6:=zab B6 q5
   have hB6:=hB5.trans (B6.mono hB5.size)
   have kT6:=kT5.later B6
   go_simp
   generalize wd.alloc (.cells #[tx nn,.int .i64 yy,.slice none 0 0] 138) = w6 at *
   refine hK.out _ _ ?_ (fun _=>?_)
   ·
    exact p6
   clear hK K
   refine wpAnyH_ready (rs:=[4]) (by kernel_rfl) (by simp) ?_
   refine aR rfl fun K hK=>?_
   have k5:=(zaa h6.hd 1).trans rfl
   go_simp
   refine hK.out _ _ ?_ (fun _=>?_)
   ·
    exact p6
   clear hK K
   refine wpAnyH_ready (rs:=[8]) (by kernel_rfl) (by simp) ?_
   refine aR rfl fun K hK=>?_
   refine zay _ _ (some 40) 82 rfl rfl (by rfl) wb.heap.size 138 i0 (.agg #[tx [],.int .i64 0,.slice none 0 0]) 3 48 Tryz.underlying82 hi hz0 hz1 hz2 rfl (by decide) (.slice ao c.gs.length cap) c.gs.length (cellsG c.gs vs) rfl h6.gs ⟨wd.heap.size,0,none⟩ 1 1 [tx nn,.int .i64 yy,.slice none 0 0] rfl rfl ?hnews ?hone ?h63 ?hby ?hbs ?_
   case hnews=>
    intro j u hu
    rw [Addr.add_lit,Nat.zero_add,zaa n6 j]
    simpa using hu
   case hone=>
    intro u hu
    simp only [List.mem_cons,List.not_mem_nil,or_false] at hu
    rcases hu with rfl | rfl | rfl <;> rfl
   case h63=>unfold maxLen;omega
   case hby=>omega
   case hbs=>exact hB6.size
   intro v' w7 own7 hg7 hat7
   have o7:=zas hg7
   have p7:=o7.heap p6 (fun hm=>zap h6.gs p6 (by decide) (by simpa using hm))
   have q7:=o7.heap q6 (fun hm=>zap h6.gs q6 (by decide) (by simpa using hm))
   have k7:=o7.heap h6.hd (fun hm=>zap h6.gs h6.hd (by decide) (by simpa using hm))
   have hB7:Below wb.heap.size wb w7:=((Off.of hB6 []).trans o7 (fun y hy=>Or.inr (zan h6.gs y (by simpa using hy)).1)).below (by simp)
   have kT7:=kT6.own h6.gs hg7 (by decide)
   obtain ⟨ao',cap',rfl⟩:=zav own7
   refine hK.out _ _ ?_ (fun _=>?_)
   ·
    exact p7
   clear hK K
   refine tk 9 41 (.pointer (some ⟨b,0,none⟩)) rfl (fun W hSw=>by go_simp) p7 ?_
   simp only [Act.put,pB,pC,pD]
   refine tk 10 42 (.pointer (some ⟨b,1,none⟩)) rfl (fun W hSw=>by go_simp) p7 ?_
   simp only [Act.put,pB,pC,pD]
   refine wpAnyH_ready (rs:=[11]) (by kernel_rfl) (by simp) ?_
   refine aR rfl fun K hK=>?_
   refine zbv 82 _ _ none rfl rfl (by rfl) b 1 (.slice ao' (c.gs.length + 1) cap') rfl rfl #[vr,.slice ao c.gs.length cap] 84 k7 (by simp) rz82 rfl #[vr,.slice ao' (c.gs.length + 1) cap'] rfl ?_
   intro w8 k8 o8 z8
   have h8:=h6.addG nn yy own7 hg7 hat7 k8 o8
   have p8:=o8.heap p7 (by simp;omega)
   have q8:=o8.heap q7 (by simp;omega)
   have hB8:=((Off.of hB7 []).trans o8 (by have:=h6.bb;simp;omega)).below (by simp)
   have kT8:=kT7.st k7 (by decide) o8
   refine hK.out _ _ ?_ (fun _=>?_)
   ·
    exact p8
   clear hK K
   refine wpAnyH_done (by kernel_rfl) ?_ _
   refine NoPanic.normal ?_
   go_wp2_with (refine zad rfl 87 _ _ rfl w.heap.size #[.int .i64 0,.int .i64 0] rfl rfl _ 87 q8 2 rz87 rfl ⟨rfl,rfl⟩ ?_;intro w9 q9 o9 z9)
   exact bodyPost_ret (zak Tryz.results92 _ _ w.heap.size 87 #[.int .i64 0,.int .i64 0] _ rfl q9 Tryz.underlying87 rfl 2 rz87 rfl) rfl ⟨((Off.of hB8 []).trans o9 (by simp;omega)).below (by simp),kT8.fresh o9 (Nat.le_refl _),rfl,F,vr,_,_,fun _ hx=>Or.inl hx,h8.off9 o9 ⟨by omega,hnF⟩ q8⟩
end Go.Proofs.YtjlaihekocjggaaGreatDoor
