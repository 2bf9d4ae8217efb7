/- Texts that the others lean on. -/
import Derived.Test.YtjlaihekocjggaaGreatDoorKQRIs3
import Derived.Test.YtjlaihekocjggaaGreatDoorKMP
set_option maxHeartbeats 16000000
namespace Go.Proofs.YtjlaihekocjggaaGreatDoor
open Go.RowKit
def lnR (r:Ru):Str:=rW ++ fPrint (Lb.withL r.st [(nm,r.nm)]) ++ bW ++ prE r.e
def lnG (g:Gr):List Str:=hdL g.name g.ev :: g.rs.map lnR
def lnC (c:Cf):List Str:=c.rl.map Lb.fPrintR ++ c.gs.flatMap lnG
theorem zhi (l:List Pr):(fPrint l).length ≤ 1000:=by
 unfold fPrint
 split
 ·
  next h=>
  have h1:=Lb.metric_len l
  obtain ⟨h2,h3⟩:=Lb.others_is h
  have h4:=Lb.inner_le (others l) h3
  split
  ·
   omega
  simp
  omega
 simp
theorem zpi {l p:List Pr} (hl:Lb.Fit l) (hp:Lb.Fit p):Lb.Fit (Lb.withL l p):=by
 unfold Lb.withL
 split
 ·
  exact (Lb.latest_fit hl hp).filter _
 exact fun q hq=>by cases hq
theorem zph (l p:List Pr):(Lb.withL l p).length ≤ l.length + p.length:=by
 unfold Lb.withL
 split
 ·
  exact Nat.le_trans (List.length_filter_le _ _) (Lb.latest_len l p)
 simp
theorem prE_len {e:Ex} (h:(pr9 e).length ≤ 1000000):(prE e).length ≤ 1000000:=by
 unfold prE
 split
 ·
  exact h
 simp
theorem lnR_len {r:Ru} (h:(pr9 r.e).length ≤ 1000000):(lnR r).length ≤ 1001010:=by
 have h1:=zhi (Lb.withL r.st [(nm,r.nm)])
 have h2:=prE_len h
 unfold lnR
 simp [rW,bW]
 omega
theorem zjc {P:Nat → Prop} {r:Ru} {cs:Array Value} {w:World} (h:RuP P w r cs) (hf:FitRu r) (he:Ev w):Calls Tryz.prog 191 #[.agg cs] w fun e w'=>e = .returned (tx (lnR r)) ∧ Below w.heap.size w w':=by
 have hrow:=h.row
 have hso:=fun W (hW:Below w.heap.size w W)=>zja (h.later hW) hf
 have hp0:=fun (ce:Array Value) W (ht:TrP P W r.e ce) (h2:Ev W)=>zob ht hf.sm hf.vr hf.pr h2
 have hlp:=fun W ao cap n (hn:n = (Lb.withL r.st [(nm,r.nm)]).length) (h1:Lb.Ps W ao n (Lb.withL r.st [(nm,r.nm)])) (h2:Mx W)=>Lb.print_any ao n cap (Lb.withL r.st [(nm,r.nm)]) W (by have a:=zph r.st [(nm,r.nm)];have b:=hf.ln;simp only [List.length_singleton] at a;omega) (zpi hf.st (fit1 hf.nm)) h2 h1
 have k1:=zhi (Lb.withL r.st [(nm,r.nm)])
 have k2:=prE_len hf.pr
 obtain ⟨ce,vs,rfl,ht,hs⟩:=h
 have ce13:=ht.row.1
 have q:=zac w (.cells (ruA r ce vs) 65)
 have B:=bal (Below.refl w.heap.size w) (.cells (ruA r ce vs) 65)
 have hpr:=hp0 ce
 have HR:Hid (lnR r = rW ++ fPrint (Lb.withL r.st [(nm,r.nm)]) ++ bW ++ prE r.e):=rfl
 generalize fPrint (Lb.withL r.st [(nm,r.nm)]) = fp at *
 generalize prE r.e = pe at *
 obtain ⟨q1,H1⟩:∃ q,Hid (q = rW ++ fp):=⟨rW ++ fp,(rfl:rW ++ fp = rW ++ fp)⟩
 obtain ⟨q2,H2⟩:∃ q,Hid (q = q1 ++ bW):=⟨q1 ++ bW,(rfl:q1 ++ bW = q1 ++ bW)⟩
 obtain ⟨q3,H3⟩:∃ q,Hid (q = q2 ++ pe):=⟨q2 ++ pe,(rfl:q2 ++ pe = q2 ++ pe)⟩
 have j1:q1.length ≤ 1007:=by rw [H1.out];simp [rW];omega
 have j2:q2.length ≤ 1010:=by rw [H2.out];simp [bW];omega
 have HQ:Hid (lnR r = q3):=by show _ = _;rw [HR.out,H3.out,H2.out,H1.out]
 clear hp0 HR hs
 go_enter Tryz.func191,Tryz.ntmps191
 go_wp2_with (refine zaj rfl 65 _ rfl w.heap.size (ruA r ce vs) 65 rfl q _ Tryz.underlying65 rfl 15 rz65 hrow.1 ?_)
 generalize w.alloc (.cells (ruA r ce vs) 65) = w0 at *
 refine (hso _ B).mono ?_
 rintro e w1 ⟨a3,n3,c3,rfl,hn3,ps3,b1⟩
 subst hn3
 have q1':=zab b1 q
 have B1:=Below.chain B b1
 have e1:=he.later B1
 go_upto_region 2 with fail
 have C0:Below w1.heap.size w1 w1.drew:=(Below.refl _ _).drew
 refine wp_region_noPanic ?_
 refine wp_region_held_drew (S:=fun W=>Below w1.heap.size w1 W) (by kernel_rfl) ?_ (fun _=>?_)
 ·
  exact C0
 generalize w1.drew = wd at *
 refine tk 0 10 (.slice a3 (Lb.withL r.st [(nm,r.nm)]).length c3) rfl (fun W hSw=>by go_simp) C0 ?_
 simp only [Act.put,pB,pC,pD]
 refine tk 4 14 (.pointer (some ⟨w.heap.size,1,none⟩)) rfl (fun W hSw=>by go_simp) C0 ?_
 simp only [Act.put,pB,pC,pD]
 refine tk 5 15 (.agg ce) rfl (fun W hSw=>by exact zdh _ rfl w.heap.size 1 ce rfl W (zmv (zab hSw q1') ce13) ce13) C0 ?_
 simp only [Act.put,pB,pC,pD]
 refine wpAnyH_ready (rs:=[1]) (by kernel_rfl) (by simp) ?_
 refine aR rfl fun K hK=>?_
 go_simp
 refine (hlp wd a3 c3 _ rfl (ps3.later C0) (e1.later C0).mx).mono ?_
 rintro e w2 ⟨rfl,b2⟩
 have C2:=Below.chain C0 b2
 refine hK.out _ _ ?_ (fun _=>?_)
 ·
  exact C2
 clear hK K
 refine tk 2 12 (tx q1) rfl (fun W hSw=>by exact zam rfl rW fp rfl rfl (by simp [rW];omega) q1 H1.out W) C2 ?_
 simp only [Act.put,pB,pC,pD]
 refine tk 3 13 (tx q2) rfl (fun W hSw=>by exact zam rfl q1 bW rfl rfl (by simp [bW];omega) q2 H2.out W) C2 ?_
 simp only [Act.put,pB,pC,pD]
 refine wpAnyH_ready (rs:=[6]) (by kernel_rfl) (by simp) ?_
 refine aR rfl fun K hK=>?_
 go_simp
 refine (hpr _ (TrP.later ht (Below.chain B1 C2)) (e1.later C2)).mono ?_
 rintro e w3 ⟨rfl,b3⟩
 have C3:=Below.chain C2 b3
 refine hK.out _ _ ?_ (fun _=>?_)
 ·
  exact C3
 clear hK K
 refine tk 7 17 (tx q3) rfl (fun W hSw=>by exact zam rfl q2 pe rfl rfl (by omega) q3 H3.out W) C3 ?_
 simp only [Act.put,pB,pC,pD]
 refine tk 8 2 (tx q3) rfl (fun W hSw=>by go_simp) C3 ?_
 simp only [Act.put,pB,pC,pD]
 refine wpAnyH_done (by kernel_rfl) ?_ _
 refine NoPanic.normal ?_
 go_wp2_with fail
 go_ret
 exact ⟨by rw [HQ.out];rfl,Below.chain B1 C3⟩
theorem zov {P:Nat → Prop} {w:World} {g:Gr} {u:Value} (h:RsP P w u g.rs) (hb:g.name.length ≤ 1000000) (h0:-9223372036854775808 ≤ g.ev) (h1:g.ev ≤ 9223372036854775807) (hn:g.rs.length ≤ 1000000) (hf:∀ r ∈ g.rs,FitRu r) (he:Ev w) :
  Calls Tryz.prog 116 #[.agg #[tx g.name,.int .i64 g.ev,u]] w fun e w'=>∃ v,e = .returned v ∧ OwnS w' w.heap.size v (lnG g) ∧ Below w.heap.size w w':=by
 obtain ⟨i0,hi,hz0,hz1,hz2⟩:=zbz
 obtain ⟨ao,cap,rss,rfl,hl,sv,hrow,h3⟩:=h.view
 have hhl:=fun W (k:Fx.Tab Tryz.prog W)=>zjx g.name g.ev W hb h0 h1 k
 have HS:Hid (Sv w ao 15 rss):=sv
 have HW:Hid (∀ cs ∈ rss,Row 15 cs):=hrow
 have H3:Hid (∀ (k:Nat) r,g.rs[k]? = some r → ∃ cs,rss[k]? = some cs ∧ RuP P w r cs):=h3
 have HF:Hid (∀ r ∈ g.rs,FitRu r):=hf
 have q:=zac w (.cells #[tx g.name,.int .i64 g.ev,.slice ao g.rs.length cap] 138)
 have B:=bal (Below.refl w.heap.size w) (.cells #[tx g.name,.int .i64 g.ev,.slice ao g.rs.length cap] 138)
 have c0:=(zaa q 0).trans rfl
 have c1:=(zaa q 1).trans rfl
 have HG:Hid (lnG g = hdL g.name g.ev :: g.rs.map lnR):=rfl
 generalize hdL g.name g.ev = hd at *
 generalize g.name = gn at *
 generalize g.ev = ge at *
 generalize hN:g.rs.length = n at *
 have HN:Hid (g.rs.length = n):=hN
 clear hN
 clear sv hrow h3 h hf
 go_enter Tryz.func116,Tryz.ntmps116
 go_wp2_with fail
 generalize w.alloc (.cells #[tx gn,.int .i64 ge,.slice ao n cap] 138) = w0 at *
 refine (hhl _ (he.later B).tab).mono ?_
 rintro e w1 ⟨rfl,b1⟩
 have q1:=zab b1 q
 have B1:=Below.chain B b1
 have x2:=(zaa q1 2).trans rfl
 have bs:=bal (Below.refl w1.heap.size w1) (.cells #[tx hd] 9)
 have ho:OwnS (w1.alloc (.cells #[tx hd] 9)) w.heap.size (.slice (some ⟨w1.heap.size,0,none⟩) 1 1) [hd]:=⟨rfl,Or.inr ⟨w1.heap.size,1,#[tx hd],rfl,B1.size,zac w1 _,Nat.le_refl _,by decide,rfl,rfl⟩⟩
 have x3:=(zaa (zab bs q1) 2).trans rfl
 have B2:=Below.chain B1 bs
 clear c0 c1 x2
 go_wp2_with fail
 generalize w1.alloc (.cells #[tx hd] 9) = w2 at *
 go_loopw [13,3] (fun i v wr=>∃ (k:Nat),k ≤ n ∧ i = .int .i64 k ∧ OwnS wr w.heap.size v (hd :: (g.rs.take k).map lnR) ∧ Below w.heap.size w wr) (fun i _ _=>n - (intOf i).toNat)
 case atStart=>exact ⟨0,by omega,rfl,ho,B2⟩
 case round=>
  obtain ⟨k,hk,rfl,ow,Br⟩:=hrel
  by_cases hlt:k < n
  ·
   have hlt':(k:Int) < n:=by omega
   obtain ⟨r,hr⟩:∃ r,g.rs[k]? = some r:=⟨_,List.getElem?_eq_getElem (by have:=HN.out;omega)⟩
   obtain ⟨cs,hcs,hR⟩:=H3.out k r hr
   obtain ⟨b,off,ea,hra⟩:=(Sv.later HS.out Br) k cs hcs
   have row:=HW.out cs (List.mem_of_getElem? hcs)
   have hru:=fun W (hW:Below w.heap.size w W)=>zjc (hR.later hW) (HF.out r (List.mem_of_getElem? hr)) (he.later hW)
   have HE:Hid (hd :: (g.rs.take (k + 1)).map lnR = (hd :: (g.rs.take k).map lnR) ++ [lnR r]):=by
    show _ = _
    rw [List.take_add_one,hr]
    simp
   subst ea
   have q0:=zac wr (.cells #[.string ⟨#[]⟩,.int .i64 0,.int .i64 0,.bool false,.int .i64 0,.string ⟨#[]⟩,.slice none 0 0,.int .i64 0,.bool false,.bool false,.bool false,.bool false,.slice none 0 0,.slice none 0 0,.slice none 0 0] 65)
   have hlen:(hd :: (g.rs.take k).map lnR).length = k + 1:=by have:=HN.out;simp;omega
   clear HS HW H3 HF hr hcs hR
   generalize lnR r = lr at *
   generalize hd :: (g.rs.take k).map lnR = acc at *
   go_wp2_with (first | (refine zbi rfl 65 _ rfl b (off + k * 15) cs rfl hra _ Tryz.underlying65 rfl 15 rz65 row.1 ?_) | (refine zad rfl 65 _ _ rfl wr.heap.size cs rfl rfl _ 65 q0 15 rz65 rfl row ?_;intro w3 p3 o3 z3;have b3:=((Off.of (bal (Below.refl wr.heap.size wr) (.cells #[.string ⟨#[]⟩,.int .i64 0,.int .i64 0,.bool false,.int .i64 0,.string ⟨#[]⟩,.slice none 0 0,.int .i64 0,.bool false,.bool false,.bool false,.bool false,.slice none 0 0,.slice none 0 0,.slice none 0 0] 65)) []).trans o3 (by simp)).below (by simp)) | (refine zaj rfl 65 _ rfl wr.heap.size cs 65 rfl p3 _ Tryz.underlying65 rfl 15 rz65 row.1 ?_))
   have B3:=Below.chain Br b3
   have ow3:=OwnS.later ow b3
   refine (hru _ B3).mono ?_
   rintro e w4 ⟨rfl,b4⟩
   have B4:=Below.chain B3 b4
   have ow4:=OwnS.later ow3 b4
   have b5:=bal (Below.refl w4.heap.size w4) (.cells #[tx lr] 9)
   have ow5:=OwnS.later ow4 b5
   have B5:=Below.chain B4 b5
   go_wp2_with (at_builtin;go_must (refine wpList_append_own _ rfl _ _ 25 rfl w.heap.size 9 i0 (tx []) 1 16 Tryz.underlying25 hi hz0 hz1 hz2 rfl (by decide) _ _ _ rfl ow5 ⟨w4.heap.size,0,none⟩ 1 1 [tx lr] rfl rfl ?hnw (fun u hu=>by cases hu with | head=>rfl | tail _ h=>cases h) ?h63 ?hby ?hbs ?_))
   case hnw=>exact zbk (World.cell?_alloc_new w4 _ _ 0)
   case h63=>unfold maxLen;omega
   case hby=>omega
   case hbs=>exact B5.size
   intro v' w6 own6 hg6 _
   go_wp2_with fail
   go_roundw
   case rel=>exact ⟨k + 1,by omega,by go_num,by rw [HE.out];exact OwnS.snoc (by rw [hlen];exact own6),B5.grown hg6 B5.size (fun y hy=>(World.ownsRow.lt ow5 y hy).1)⟩
   case measure=>simp [intOf];omega
  have hlt':¬ (k:Int) < n:=by omega
  have HE:Hid (hd :: (g.rs.take k).map lnR = lnG g):=by
   show _ = _
   rw [HG.out,List.take_of_length_le (by have:=HN.out;omega)]
  clear HS HW H3 HF
  go_wp2_with fail
  go_ret
  exact ⟨_,rfl,by rw [← HE.out];exact ow,Br⟩
theorem zli (g:Gr):(lnG g).length = g.rs.length + 1:=by simp [lnG]
theorem lines_any {P:Nat → Prop} {w:World} {c:Cf} {cs:Array Value} (h:CfP P w c cs) (hf:FitC c) (hnm:∀ g ∈ c.gs,g.name.length ≤ 1000000) (he:Ev w) :
  Calls Tryz.prog 64 #[.agg cs] w fun e w'=>∃ v,e = .returned v ∧ OwnS w' w.heap.size v (lnC c) ∧ Below w.heap.size w w':=by
 obtain ⟨i0,hi,hz0,hz1,hz2⟩:=zbz
 obtain ⟨vr,vg,rfl,h1,h2⟩:=h
 obtain ⟨al,cl,rfl,svl⟩:=zkx h1
 obtain ⟨ag,cg,css,rfl,hcg,hcl,svg,hrow,hkey⟩:=h2.view
 have HSL:Hid (Sv w al 6 (c.rl.map rA)):=svl
 have HSG:Hid (Sv w ag 3 css):=svg
 have HKY:Hid (∀ (i:Nat) g,c.gs[i]? = some g → ∃ a m k,css[i]? = some #[tx g.name,.int .i64 g.ev,.slice a m k] ∧ m = g.rs.length ∧ RsP P w (.slice a m k) g.rs):=hkey
 have HFL:Hid (∀ r ∈ c.rl,Lb.FitR r):=hf.rl
 have HFG:Hid (∀ g ∈ c.gs,Big g.name ∧ -9223372036854775808 ≤ g.ev ∧ g.ev ≤ 9223372036854775807 ∧ g.rs.length ≤ 1000000 ∧ ∀ r ∈ g.rs,FitRu r):=hf.gs
 have HNM:Hid (∀ g ∈ c.gs,g.name.length ≤ 1000000):=hnm
 have hln:=hf.rn
 have hgn:=hf.gn
 have q:=zac w (.cells #[.slice al c.rl.length cl,.slice ag c.gs.length cg] 39)
 have B:=bal (Below.refl w.heap.size w) (.cells #[.slice al c.rl.length cl,.slice ag c.gs.length cg] 39)
 generalize hL:c.rl.length = ln at *
 generalize hG:c.gs.length = gn at *
 have HL:Hid (c.rl.length = ln):=hL
 have HG:Hid (c.gs.length = gn):=hG
 clear hL hG h1 h2 svl svg hrow hkey hcl hf hnm hcg
 have b1:=bal (Below.refl _ (w.alloc (.cells #[.slice al ln cl,.slice ag gn cg] 39))) (.cells #[] 9)
 have q1:=zab b1 q
 have B1:=Below.chain B b1
 have ho:OwnS ((w.alloc (.cells #[.slice al ln cl,.slice ag gn cg] 39)).alloc (.cells #[] 9)) w.heap.size (.slice (some ⟨w.heap.size + 1,0,none⟩) 0 0) []:=⟨rfl,Or.inr ⟨w.heap.size + 1,0,#[],rfl,by omega,by have:=zac (w.alloc (.cells #[.slice al ln cl,.slice ag gn cg] 39)) (.cells #[] 9);simpa using this,Nat.le_refl _,Nat.zero_le _,rfl,rfl⟩⟩
 have x0:=(zaa q1 0).trans rfl
 go_enter Tryz.func64,Tryz.ntmps64
 go_wp2_with fail
 generalize (w.alloc (.cells #[.slice al ln cl,.slice ag gn cg] 39)).alloc (.cells #[] 9) = w1 at *
 clear b1 q x0 B
 go_loopw [12,3] (fun i v wr=>∃ (k:Nat),k ≤ ln ∧ i = .int .i64 k ∧ OwnS wr w.heap.size v ((c.rl.take k).map Lb.fPrintR) ∧ wr.heap[w.heap.size]? = some (.cells #[.slice al ln cl,.slice ag gn cg] 39) ∧ Below w.heap.size w wr) (fun i _ _=>ln - (intOf i).toNat)
 case atStart=>exact ⟨0,by omega,rfl,ho,q1,B1⟩
 case round=>
  obtain ⟨k,hk,rfl,ow,qr,Br⟩:=hrel
  by_cases hlt:k < ln
  ·
   have hlt':(k:Int) < ln:=by omega
   have hkl:k < c.rl.length:=by have:=HL.out;omega
   obtain ⟨b,off,ea,hra⟩:=(Sv.later HSL.out Br) k (rA c.rl[k]) (by simp [List.getElem?_eq_getElem hkl])
   have hpr:=fun W (hm:Mx W)=>Lb.printR_any c.rl[k] W (HFL.out _ (List.getElem_mem hkl)) hm
   have HE:Hid ((c.rl.take (k + 1)).map Lb.fPrintR = (c.rl.take k).map Lb.fPrintR ++ [Lb.fPrintR c.rl[k]]):=by
    show _ = _
    rw [List.take_add_one,List.getElem?_eq_getElem hkl,List.map_append]
    rfl
   subst ea
   have q0:=zac wr (.cells #[.int .i64 0,.string ⟨#[]⟩,.int .i64 0,.string ⟨#[]⟩,.string ⟨#[]⟩,.string ⟨#[]⟩] 59)
   have hlen:((c.rl.take k).map Lb.fPrintR).length = k:=by simp;omega
   clear HSL HSG HKY HFL HFG HNM
   generalize c.rl[k] = r at *
   generalize Lb.fPrintR r = lr at *
   generalize (c.rl.take k).map Lb.fPrintR = acc at *
   go_wp2_with (first | (refine zbi rfl 59 _ rfl b (off + k * 6) (rA r) rfl hra _ Tryz.underlying59 rfl 6 rz59 rfl ?_) | (refine zad rfl 59 _ _ rfl wr.heap.size (rA r) rfl rfl _ 59 q0 6 rz59 rfl ⟨rfl,rfl⟩ ?_;intro w3 p3 o3 z3;have b3:=((Off.of (bal (Below.refl wr.heap.size wr) (.cells #[.int .i64 0,.string ⟨#[]⟩,.int .i64 0,.string ⟨#[]⟩,.string ⟨#[]⟩,.string ⟨#[]⟩] 59)) []).trans o3 (by simp)).below (by simp)) | (refine zaj rfl 59 _ rfl wr.heap.size (rA r) 59 rfl p3 _ Tryz.underlying59 rfl 6 rz59 rfl ?_))
   have B3:=Below.chain Br b3
   have ow3:=OwnS.later ow b3
   refine (hpr _ (he.later B3).mx).mono ?_
   rintro e w4 ⟨rfl,b4⟩
   have B4:=Below.chain B3 b4
   have ow4:=OwnS.later ow3 b4
   have q4:=zab b4 (zab b3 qr)
   have b5:=bal (Below.refl w4.heap.size w4) (.cells #[tx lr] 9)
   have ow5:=OwnS.later ow4 b5
   have q5:=zab b5 q4
   have B5:=Below.chain B4 b5
   go_wp2_with (at_builtin;go_must (refine wpList_append_own _ rfl _ _ 25 rfl w.heap.size 9 i0 (tx []) 1 16 Tryz.underlying25 hi hz0 hz1 hz2 rfl (by decide) _ _ _ rfl ow5 ⟨w4.heap.size,0,none⟩ 1 1 [tx lr] rfl ?hlx ?hnw ?hone ?h63 ?hby ?hbs ?_))
   case hlx=>rfl
   case hnw=>exact zbk (World.cell?_alloc_new w4 _ _ 0)
   case hone=>exact (fun u hu=>by cases hu with | head=>rfl | tail _ h=>cases h)
   case h63=>unfold maxLen;omega
   case hby=>omega
   case hbs=>exact B5.size
   intro v' w6 own6 hg6 _
   have q6:=(zas hg6).heap q5 (fun hm=>zap ow5 q5 (by decide) (by simpa using hm))
   go_wp2_with fail
   go_roundw
   case rel=>exact ⟨k + 1,by omega,by go_num,by rw [HE.out];exact OwnS.snoc (by rw [hlen];exact own6),q6,B5.grown hg6 B5.size (fun y hy=>(World.ownsRow.lt ow5 y hy).1)⟩
   case measure=>simp [intOf];omega
  have hlt':¬ (k:Int) < ln:=by omega
  have HE:Hid ((c.rl.take k).map Lb.fPrintR = c.rl.map Lb.fPrintR):=by show _ = _;rw [List.take_of_length_le (by have:=HL.out;omega)]
  have hall:(c.rl.map Lb.fPrintR).length = ln:=by have:=HL.out;simpa using this
  rw [HE.out] at ow
  have x1:=(zaa qr 1).trans rfl
  clear HE HSL HFL B1 q1 ho
  go_wp2_with fail
  go_loopw [25,3] (fun i v wr=>∃ (k:Nat) (acc:List Str),k ≤ gn ∧ i = .int .i64 k ∧ OwnS wr w.heap.size v acc ∧ acc.length ≤ 1000000 + k * 1000001 ∧ Hid (acc = c.rl.map Lb.fPrintR ++ (c.gs.take k).flatMap lnG) ∧ Below w.heap.size w wr) (fun i _ _=>gn - (intOf i).toNat)
  case atStart=>exact ⟨0,c.rl.map Lb.fPrintR,by omega,rfl,ow,by rw [hall];omega,by show _ = _;simp,Br⟩
  case round=>
   obtain ⟨k,acc,hk,rfl,ow,hacc,HA,Bz⟩:=hrel
   by_cases hlt:k < gn
   ·
    have hlt':(k:Int) < gn:=by omega
    obtain ⟨g,hg⟩:∃ g,c.gs[k]? = some g:=⟨_,List.getElem?_eq_getElem (by have:=HG.out;omega)⟩
    obtain ⟨a,m,kc,hcs,rfl,hR⟩:=HKY.out k g hg
    obtain ⟨b,off,ea,hra⟩:=(Sv.later HSG.out Bz) k _ hcs
    subst ea
    have hgm:=HFG.out g (List.mem_of_getElem? hg)
    have hng:=HNM.out g (List.mem_of_getElem? hg)
    have hgo:=fun W=>zdz g.name g.ev a g.rs.length kc W
    have hgl:=fun W (hW:Below w.heap.size w W)=>zov (hR.later hW) hng hgm.2.1 hgm.2.2.1 hgm.2.2.2.1 hgm.2.2.2.2 (he.later hW)
    have hgn':(lnG g).length ≤ 1000001:=by rw [zli];have:=hgm.2.2.2.1;omega
    have hpos:0 < (lnG g).length:=by rw [zli];omega
    have HE:Hid (acc ++ lnG g = c.rl.map Lb.fPrintR ++ (c.gs.take (k + 1)).flatMap lnG):=by
     show _ = _
     rw [HA.out,List.take_add_one,hg]
     simp [List.flatMap_append]
    have q0:=zac wr (.cells #[.string ⟨#[]⟩,.int .i64 0,.slice none 0 0] 62)
    clear HA HSG HKY HFG HNM hg hcs hR hgm hng
    generalize lnG g = lg at *
    generalize g.name = gnm at *
    generalize g.ev = gev at *
    generalize g.rs.length = gl at *
    go_wp2_with (first | (refine zbi rfl 62 _ rfl b (off + k * 3) #[tx gnm,.int .i64 gev,.slice a gl kc] rfl hra _ Tryz.underlying62 rfl 3 rz62 rfl ?_) | (refine zad rfl 62 _ _ rfl wr.heap.size #[tx gnm,.int .i64 gev,.slice a gl kc] rfl rfl _ 62 q0 3 rz62 rfl ⟨rfl,rfl⟩ ?_;intro w3 p3 o3 z3;have b3:=((Off.of (bal (Below.refl wr.heap.size wr) (.cells #[.string ⟨#[]⟩,.int .i64 0,.slice none 0 0] 62)) []).trans o3 (by simp)).below (by simp)) | (refine zaj rfl 62 _ rfl wr.heap.size #[tx gnm,.int .i64 gev,.slice a gl kc] 62 rfl p3 _ Tryz.underlying62 rfl 3 rz62 rfl ?_))
    have B3:=Below.chain Bz b3
    have ow3:=OwnS.later ow b3
    refine (hgo _).mono ?_
    rintro e w4 ⟨rfl,b4⟩
    have B4:=Below.chain B3 b4
    have ow4:=OwnS.later ow3 b4
    go_wp2_with fail
    refine (hgl _ B4).mono ?_
    rintro e w5 ⟨v5,rfl,own5,b5⟩
    have B5:=Below.chain B4 b5
    have ow5:=OwnS.later ow4 b5
    obtain ⟨gb,gcap,cur,rfl,hgb,hcur,hgn5,_,hsz5,htk5⟩:=own5.2.resolve_left (fun hq=>by have:=hq.2;omega)
    go_wp2_with (at_builtin;go_must (refine wpList_append_own _ rfl _ _ 25 rfl w.heap.size 9 i0 (tx []) 1 16 Tryz.underlying25 hi hz0 hz1 hz2 rfl (by decide) _ _ _ rfl ow5 ⟨gb,0,none⟩ lg.length gcap (lg.map tx) rfl ?hlx ?hnw ?hone ?h63 ?hby ?hbs ?_))
    case hlx=>simp
    case hnw=>
     intro j u hu
     rw [Addr.add_lit,Nat.zero_add,zaa hcur,← hu,← htk5,List.getElem?_take_of_lt (by have:=(List.getElem?_eq_some_iff.1 hu).1;simp at this;omega)]
     simp
    case hone=>
     intro u hu
     obtain ⟨x,_,rfl⟩:=List.mem_map.1 hu
     rfl
    case h63=>unfold maxLen;omega
    case hby=>omega
    case hbs=>exact B5.size
    intro v' w6 own6 hg6 _
    go_wp2_with fail
    go_roundw
    case rel=>exact ⟨k + 1,acc ++ lg,by omega,by go_num,by show World.ownsRow _ _ _ _ _ _ _;rw [List.length_append,List.map_append];exact own6,by rw [List.length_append];omega,HE,B5.grown hg6 B5.size (fun y hy=>(World.ownsRow.lt ow5 y hy).1)⟩
    case measure=>simp [intOf];omega
   have hlt':¬ (k:Int) < gn:=by omega
   have HE:Hid (acc = lnC c):=by
    show _ = _
    rw [HA.out,List.take_of_length_le (by have:=HG.out;omega)]
    rfl
   clear HA HSG HKY HFG HNM
   go_wp2_with fail
   go_ret
   exact ⟨_,rfl,by rw [← HE.out];exact ow,Bz⟩
end Go.Proofs.YtjlaihekocjggaaGreatDoor
