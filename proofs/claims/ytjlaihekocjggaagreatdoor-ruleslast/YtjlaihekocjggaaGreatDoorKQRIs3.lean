/- Texts that the others lean on. -/
import Derived.Test.YtjlaihekocjggaaGreatDoorKRIs
set_option maxHeartbeats 16000000
namespace Go.Proofs.YtjlaihekocjggaaGreatDoor
open Go.RowKit
theorem RsP.view {P:Nat → Prop} {w:World} {v:Value} {l:List Ru} (h:RsP P w v l):∃ ao cap rss,v = .slice ao l.length cap ∧ rss.length = l.length ∧ Sv w ao 15 rss ∧ (∀ cs ∈ rss,Row 15 cs) ∧ ∀ (k:Nat) r,l[k]? = some r → ∃ cs,rss[k]? = some cs ∧ RuP P w r cs:=by
 obtain ⟨rss,h1,h2,h3⟩:=h
 have hrow:∀ cs ∈ rss,Row 15 cs:=fun cs hc=>by
  obtain ⟨i,hi⟩:=List.getElem?_of_mem hc
  have hl:i < l.length:=by have:=(List.getElem?_eq_some_iff.1 hi).1;omega
  obtain ⟨cs',hc',hr⟩:=h3 i l[i] (List.getElem?_eq_getElem hl)
  rw [hi] at hc'
  cases hc'
  exact hr.row
 obtain ⟨ao,cap,e,_,sv⟩:=Sv.of h1 h2 (fun cs hc=>(hrow cs hc).1)
 exact ⟨ao,cap,rss,e,h2,sv,hrow,h3⟩
theorem RsP.later {P:Nat → Prop} {w w':World} {v:Value} {l:List Ru} (h:RsP P w v l) (hb:Below w.heap.size w w'):RsP P w' v l:=h.off (Off.of hb []) (fun _ hx=>by cases hx)
def ru0:Ru:=⟨[],ex0,[]⟩
theorem rules_any {P:Nat → Prop} {w:World} {v:Value} {l:List Ru} (h:RsP P w v l) (hf:∀ r ∈ l,FitRu r) (hn:l.length ≤ 1000000) (het:Et w):Calls Tryz.prog 105 #[v,.func (.func 106) #[] #[]] w fun e w'=>e = .returned (.bool (l.all isRuB)) ∧ Below w.heap.size w w':=by
 obtain ⟨ao,cap,rss,rfl,hl,sv,hrow,h3⟩:=h.view
 have:=zpf (cap:=cap) rss hl hn (fun i=>isRuB (l.getD i ru0)) sv hrow (fun i cs hi W hW=>by
  have hil:i < l.length:=by have:=(List.getElem?_eq_some_iff.1 hi).1;omega
  obtain ⟨cs',hc',hr⟩:=h3 i l[i] (List.getElem?_eq_getElem hil)
  rw [hi] at hc'
  cases hc'
  have e:l.getD i ru0 = l[i]:=by simp [List.getD,List.getElem?_eq_getElem hil]
  rw [e]
  exact zoo (hr.later hW) (hf _ (List.getElem_mem hil)) (het.later hW))
 rw [all_get] at this
 exact this
theorem zlm {P:Nat → Prop} {w:World} {g:Gr} {u:Value} (h:RsP P w u g.rs) (hb:Big g.name) (hn:g.rs.length ≤ 1000000) (hf:∀ r ∈ g.rs,FitRu r) (het:Et w):Calls Tryz.prog 59 #[.agg #[tx g.name,.int .i64 g.ev,u]] w fun e w'=>e = .returned (.bool (isGrB g)) ∧ Below w.heap.size w w':=by
 have hru:=fun W (hW:Below w.heap.size w W)=>rules_any (h.later hW) hf hn (het.later hW)
 obtain ⟨ao,cap,rss,rfl,_⟩:=h.view
 have hgo:=fun W=>zdz g.name g.ev ao g.rs.length cap W
 have hih:=fun W=>zhg g.name g.ev W hb
 have HV:Hid (isGrB g = (isHd g.name g.ev && decide (g.rs.length ≤ 8) && g.rs.all isRuB)):=rfl
 have q:=zac w (.cells #[tx g.name,.int .i64 g.ev,.slice ao g.rs.length cap] 62)
 have B:=bal (Below.refl w.heap.size w) (.cells #[tx g.name,.int .i64 g.ev,.slice ao g.rs.length cap] 62)
 generalize isHd g.name g.ev = ih at *
 generalize g.rs.all isRuB = al at *
 generalize isGrB g = RR at *
 generalize g.name = gn at *
 generalize g.ev = ge at *
 generalize g.rs.length = n at *
 clear h hf het
 cases ih with
 | false=>
  go_enter Tryz.func59,Tryz.ntmps59
  go_wp2_with (refine zaj rfl 62 _ rfl w.heap.size #[tx gn,.int .i64 ge,.slice ao n cap] 62 rfl q _ Tryz.underlying62 rfl 3 rz62 rfl ?_)
  generalize w.alloc (.cells #[tx gn,.int .i64 ge,.slice ao n cap] 62) = w0 at *
  refine (hgo _).mono ?_
  rintro e w1 ⟨rfl,b1⟩
  have B1:=Below.chain B b1
  go_wp2_with (first | (refine zad rfl 138 _ _ rfl w1.heap.size #[tx gn,.int .i64 ge,.slice ao n cap] rfl rfl _ 138 (zac w1 (.cells #[.string ⟨#[]⟩,.int .i64 0,.slice none 0 0] 138)) 3 zgq rfl ⟨rfl,rfl⟩ ?_;intro w3 p3 o3 z3;have b3:=((Off.of (bal (Below.refl w1.heap.size w1) (.cells #[.string ⟨#[]⟩,.int .i64 0,.slice none 0 0] 138)) []).trans o3 (by simp)).below (by simp);have m0:=(zaa p3 0).trans rfl;have m1:=(zaa p3 1).trans rfl))
  have B3:=Below.chain B1 b3
  refine (hih _).mono ?_
  rintro e w4 ⟨rfl,b4⟩
  have p4:=zab b4 p3
  have B4:=Below.chain B3 b4
  have m2:=(zaa p4 2).trans rfl
  clear m0 m1
  go_wp2_with fail
  go_ret
  exact ⟨by rw [HV.out];simp,B4⟩
 | true=>
  by_cases h8:n ≤ 8
  ·
   have h8':(n:Int) ≤ 8:=by omega
   go_enter Tryz.func59,Tryz.ntmps59
   go_wp2_with (refine zaj rfl 62 _ rfl w.heap.size #[tx gn,.int .i64 ge,.slice ao n cap] 62 rfl q _ Tryz.underlying62 rfl 3 rz62 rfl ?_)
   generalize w.alloc (.cells #[tx gn,.int .i64 ge,.slice ao n cap] 62) = w0 at *
   refine (hgo _).mono ?_
   rintro e w1 ⟨rfl,b1⟩
   have B1:=Below.chain B b1
   go_wp2_with (first | (refine zad rfl 138 _ _ rfl w1.heap.size #[tx gn,.int .i64 ge,.slice ao n cap] rfl rfl _ 138 (zac w1 (.cells #[.string ⟨#[]⟩,.int .i64 0,.slice none 0 0] 138)) 3 zgq rfl ⟨rfl,rfl⟩ ?_;intro w3 p3 o3 z3;have b3:=((Off.of (bal (Below.refl w1.heap.size w1) (.cells #[.string ⟨#[]⟩,.int .i64 0,.slice none 0 0] 138)) []).trans o3 (by simp)).below (by simp);have m0:=(zaa p3 0).trans rfl;have m1:=(zaa p3 1).trans rfl))
   have B3:=Below.chain B1 b3
   refine (hih _).mono ?_
   rintro e w4 ⟨rfl,b4⟩
   have p4:=zab b4 p3
   have B4:=Below.chain B3 b4
   have m2:=(zaa p4 2).trans rfl
   clear m0 m1
   go_wp2_with fail
   refine (hru _ B4).mono ?_
   rintro e w5 ⟨rfl,b5⟩
   go_wp2_with fail
   go_ret
   exact ⟨by rw [HV.out];simp [h8],Below.chain B4 b5⟩
  have h8':¬ (n:Int) ≤ 8:=by omega
  go_enter Tryz.func59,Tryz.ntmps59
  go_wp2_with (refine zaj rfl 62 _ rfl w.heap.size #[tx gn,.int .i64 ge,.slice ao n cap] 62 rfl q _ Tryz.underlying62 rfl 3 rz62 rfl ?_)
  generalize w.alloc (.cells #[tx gn,.int .i64 ge,.slice ao n cap] 62) = w0 at *
  refine (hgo _).mono ?_
  rintro e w1 ⟨rfl,b1⟩
  have B1:=Below.chain B b1
  go_wp2_with (first | (refine zad rfl 138 _ _ rfl w1.heap.size #[tx gn,.int .i64 ge,.slice ao n cap] rfl rfl _ 138 (zac w1 (.cells #[.string ⟨#[]⟩,.int .i64 0,.slice none 0 0] 138)) 3 zgq rfl ⟨rfl,rfl⟩ ?_;intro w3 p3 o3 z3;have b3:=((Off.of (bal (Below.refl w1.heap.size w1) (.cells #[.string ⟨#[]⟩,.int .i64 0,.slice none 0 0] 138)) []).trans o3 (by simp)).below (by simp);have m0:=(zaa p3 0).trans rfl;have m1:=(zaa p3 1).trans rfl))
  have B3:=Below.chain B1 b3
  refine (hih _).mono ?_
  rintro e w4 ⟨rfl,b4⟩
  have p4:=zab b4 p3
  have B4:=Below.chain B3 b4
  have m2:=(zaa p4 2).trans rfl
  clear m0 m1
  go_wp2_with fail
  go_ret
  exact ⟨by rw [HV.out];simp [h8],B4⟩
/-! ### Names once -/
theorem fld138 (n:Str) (y:Int) (a:Option Addr) (m c:Nat) (W:World):(Instr.field 138 (.agg #[tx n,.int .i64 y,.slice a m c]) 0).run Tryz.prog W = .ok (hv n y) W:=by kernel_rfl
theorem once1_any (n:Str) (y:Int) (a:Option Addr) (m c:Nat) (hb:Nat) (s:Str) (ds:Array Value) (w:World) (hh:w.heap[hb]? = some (.cells ds 62)) (hd:ds[0]? = some (tx s)) :
  Calls Tryz.prog 108 #[.agg #[tx n,.int .i64 y,.slice a m c],.pointer (some ⟨hb,0,none⟩)] w fun e w'=>e = .returned (.bool (n == s)) ∧ Below w.heap.size w w':=by
 have q:=zac w (.cells #[tx n,.int .i64 y,.slice a m c] 62)
 have B:=bal (Below.refl w.heap.size w) (.cells #[tx n,.int .i64 y,.slice a m c] 62)
 have hh1:=zab B hh
 have hgo:=fun W=>zdz n y a m c W
 have hin:=fun W=>zfz n y s W
 go_enter Tryz.func108,Tryz.ntmps108
 go_upto_region 1 with fail
 generalize w.alloc (.cells #[tx n,.int .i64 y,.slice a m c] 62) = w0 at *
 have C0:Below w0.heap.size w0 w0.drew:=(Below.refl _ _).drew
 refine wp_region_noPanic ?_
 refine wp_region_held_drew (S:=fun W=>Below w0.heap.size w0 W) (by kernel_rfl) ?_ (fun _=>?_)
 ·
  exact C0
 generalize w0.drew = wd at *
 refine tk 0 4 (.agg #[tx n,.int .i64 y,.slice a m c]) rfl (fun W hSw=>by exact zar 62 _ rfl w.heap.size #[tx n,.int .i64 y,.slice a m c] 62 rfl W (zab hSw q) _ Tryz.underlying62 rfl 3 rz62 rfl) C0 ?_
 simp only [Act.put,pB,pC,pD]
 refine tk 3 7 (.pointer (some ⟨hb,0,none⟩)) rfl (fun W hSw=>by go_simp) C0 ?_
 simp only [Act.put,pB,pC,pD]
 refine tk 4 8 (tx s) rfl (fun W hSw=>by (have c_:=(zaa (zab hSw hh1) 0).trans hd;go_simp)) C0 ?_
 simp only [Act.put,pB,pC,pD]
 refine wpAnyH_ready (rs:=[1]) (by kernel_rfl) (by simp) ?_
 refine aR rfl fun K hK=>?_
 go_simp
 refine (hgo _).mono ?_
 rintro e w2 ⟨rfl,b2⟩
 have C2:=Below.chain C0 b2
 refine hK.out _ _ ?_ (fun _=>?_)
 ·
  exact C2
 clear hK K
 refine tk 2 6 (hv n y) rfl (fun W hSw=>by (go_simp;rw [fld138];rfl)) C2 ?_
 simp only [Act.put,pB,pC,pD]
 refine wpAnyH_ready (rs:=[5]) (by kernel_rfl) (by simp) ?_
 refine aR rfl fun K hK=>?_
 go_simp
 refine (hin _).mono ?_
 rintro e w3 ⟨rfl,b3⟩
 have C3:=Below.chain C2 b3
 refine hK.out _ _ ?_ (fun _=>?_)
 ·
  exact C3
 clear hK K
 refine tk 6 3 (.bool (n == s)) rfl (fun W hSw=>by go_simp) C3 ?_
 simp only [Act.put,pB,pC,pD]
 refine wpAnyH_done (by kernel_rfl) ?_ _
 refine NoPanic.normal ?_
 go_wp2_with fail
 go_ret
 exact ⟨rfl,Below.chain B C3⟩
theorem idxN_any {w:World} {ao:Option Addr} {cap n:Nat} (gs:List Gr) (css:List (Array Value)) (hl:gs.length = n) (hn:n ≤ 1000000) (hc:∀ (i:Nat) g,gs[i]? = some g → ∃ a m c,css[i]? = some #[tx g.name,.int .i64 g.ev,.slice a m c]) (hb:Nat) (s:Str) (ds:Array Value) (hh:w.heap[hb]? = some (.cells ds 62)) (hd:ds[0]? = some (tx s)) (hk:Sv w ao 3 css) :
  Calls Tryz.prog 187 #[.slice ao n cap,.func (.func 108) #[] #[.pointer (some ⟨hb,0,none⟩)]] w fun e w'=>∃ k:Int,e = .returned (.int .i64 k) ∧ Hid ((gs.any (fun g=>g.name == s) = true ∧ 0 ≤ k) ∨ (gs.any (fun g=>g.name == s) = false ∧ ¬ 0 ≤ k)) ∧ Below w.heap.size w w':=by
 have HK:Hid (Sv w ao 3 css):=hk
 have HC:Hid (∀ (i:Nat) g,gs[i]? = some g → ∃ a m c,css[i]? = some #[tx g.name,.int .i64 g.ev,.slice a m c]):=hc
 have HN:Hid (gs.length = n):=hl
 clear hk hl hc
 obtain ⟨Q,HQ⟩:∃ Q,Hid (gs.any (fun g=>g.name == s) = Q):=⟨_,(rfl:gs.any (fun g=>g.name == s) = gs.any (fun g=>g.name == s))⟩
 rw [HQ.out]
 go_enter Tryz.func187,Tryz.ntmps187
 go_wp2_with fail
 go_loopw [8] (fun i wr=>∃ k:Nat,k ≤ n ∧ i = .int .i64 k ∧ Below w.heap.size w wr ∧ Hid (∀ (j:Nat) g,j < k → gs[j]? = some g → (g.name == s) = false)) (fun i _=>n - (intOf i).toNat)
 case atStart=>exact ⟨0,by omega,rfl,Below.refl _ _,fun j g hj=>by omega⟩
 case round=>
  obtain ⟨k,hk,rfl,B,HA⟩:=hrel
  by_cases hlt:k < n
  ·
   have hlt':(k:Int) < n:=by omega
   obtain ⟨g,hg⟩:∃ g,gs[k]? = some g:=⟨_,List.getElem?_eq_getElem (by have:=HN.out;omega)⟩
   obtain ⟨a,m,c,hcs⟩:=HC.out k g hg
   obtain ⟨b,off,ea,hr⟩:=(Sv.later HK.out B) k _ hcs
   subst ea
   have hh1:=zab B hh
   have hnm:=fun W (hW:W.heap[hb]? = some (.cells ds 62))=>once1_any g.name g.ev a m c hb s ds W hW hd
   have HY:Hid ((g.name == s) = true → gs.any (fun g=>g.name == s) = true):=fun h=>List.any_eq_true.2 ⟨g,List.mem_of_getElem? hg,h⟩
   have HS:Hid ((g.name == s) = false → ∀ (j:Nat) g,j < k + 1 → gs[j]? = some g → (g.name == s) = false):=fun h j g2 hj h2=>by
    by_cases e:j = k
    ·
     subst e
     rw [hg] at h2
     cases h2
     exact h
    exact HA.out j g2 (by omega) h2
   clear HA HK HC hg hcs
   generalize hq:(g.name == s) = q at *
   clear hq
   cases q with
   | true=>
    have HR:=HY.out rfl
    have HR:Hid _:=HR
    clear HY HS
    go_wp2_with (refine zbi rfl 62 _ rfl b (off + k * 3) #[tx g.name,.int .i64 g.ev,.slice a m c] rfl hr _ Tryz.underlying62 rfl 3 rz62 rfl ?_)
    refine (hnm _ hh1).mono ?_
    rintro e w2 ⟨rfl,b2⟩
    go_wp2_with fail
    go_ret
    exact ⟨_,rfl,Or.inl ⟨by rw [← HQ.out];exact HR.out,by omega⟩,Below.chain B b2⟩
   | false=>
    have HR:=HS.out rfl
    have HR:Hid _:=HR
    clear HY HS
    go_wp2_with (refine zbi rfl 62 _ rfl b (off + k * 3) #[tx g.name,.int .i64 g.ev,.slice a m c] rfl hr _ Tryz.underlying62 rfl 3 rz62 rfl ?_)
    refine (hnm _ hh1).mono ?_
    rintro e w2 ⟨rfl,b2⟩
    go_wp2_with fail
    go_roundw
    case rel=>exact ⟨k + 1,by omega,by go_num,Below.chain B b2,HR⟩
    case measure=>simp [intOf];omega
  have hlt':¬ (k:Int) < n:=by omega
  have HR:Hid (gs.any (fun g=>g.name == s) = false):=by
   show _ = _
   rw [List.any_eq_false]
   intro g hg
   obtain ⟨j,hj⟩:=List.getElem?_of_mem hg
   have:=HA.out j g (by have:=(List.getElem?_eq_some_iff.1 hj).1;have:=HN.out;omega) hj
   simp [this]
  clear HA HK HC
  go_wp2_with fail
  go_ret
  exact ⟨_,rfl,Or.inr ⟨by rw [← HQ.out];exact HR.out,by omega⟩,B⟩
theorem conN_any {w:World} {ao:Option Addr} {cap n:Nat} (gs:List Gr) (css:List (Array Value)) (hl:gs.length = n) (hn:n ≤ 1000000) (hc:∀ (i:Nat) g,gs[i]? = some g → ∃ a m c,css[i]? = some #[tx g.name,.int .i64 g.ev,.slice a m c]) (hb:Nat) (s:Str) (ds:Array Value) (hh:w.heap[hb]? = some (.cells ds 62)) (hd:ds[0]? = some (tx s)) (hk:Sv w ao 3 css) :
  Calls Tryz.prog 107 #[.slice ao n cap,.func (.func 108) #[] #[.pointer (some ⟨hb,0,none⟩)]] w fun e w'=>e = .returned (.bool (gs.any (fun g=>g.name == s))) ∧ Below w.heap.size w w':=by
 have hi:=idxN_any (cap:=cap) gs css hl hn hc hb s ds hh hd hk
 clear hk hh hc
 generalize gs.any (fun g=>g.name == s) = q at *
 go_enter Tryz.func107,Tryz.ntmps107
 go_wp2_with fail
 refine hi.mono ?_
 rintro e w1 ⟨k,rfl,HK,b1⟩
 rcases HK.out with ⟨rfl,h0⟩ | ⟨rfl,h0⟩
 ·
  go_wp2_with fail
  go_ret
  exact ⟨by first | rfl | simp [h0],b1⟩
 go_wp2_with fail
 go_ret
 exact ⟨by first | rfl | simp [h0],b1⟩
theorem once_any {w:World} {ao:Option Addr} {cap n:Nat} (gs:List Gr) (css:List (Array Value)) (hl:gs.length = n) (hn:n ≤ 1000000) (hcap:n ≤ cap) (hc:∀ (i:Nat) g,gs[i]? = some g → ∃ a m c,css[i]? = some #[tx g.name,.int .i64 g.ev,.slice a m c]) (hk:Sv w ao 3 css) :
  Calls Tryz.prog 60 #[.slice ao n cap] w fun e w'=>e = .returned (.bool (onceB gs)) ∧ Below w.heap.size w w':=by
 have HK:Hid (Sv w ao 3 css):=hk
 have HC:Hid (∀ (i:Nat) g,gs[i]? = some g → ∃ a m c,css[i]? = some #[tx g.name,.int .i64 g.ev,.slice a m c]):=hc
 have HN:Hid (gs.length = n):=hl
 clear hk hl hc
 obtain ⟨Q,HQ⟩:∃ Q,Hid (onceB gs = Q):=⟨_,(rfl:onceB gs = onceB gs)⟩
 have HD:Hid (onceB gs = (List.range n).all fun i=>!(gs.take i).any fun x=>x.name == (gs.getD i ⟨[],0,[]⟩).name):=by show _ = _;unfold onceB;rw [HN.out]
 rw [HQ.out]
 go_enter Tryz.func60,Tryz.ntmps60
 go_wp2_with fail
 go_loopw [7] (fun i wr=>∃ k:Nat,k ≤ n ∧ i = .int .i64 k ∧ Below w.heap.size w wr ∧ Hid (∀ j,j < k → (!(gs.take j).any fun x=>x.name == (gs.getD j ⟨[],0,[]⟩).name) = true)) (fun i _=>n - (intOf i).toNat)
 case atStart=>exact ⟨0,by omega,rfl,Below.refl _ _,fun j hj=>by omega⟩
 case round=>
  obtain ⟨k,hk,rfl,B,HA⟩:=hrel
  by_cases hlt:k < n
  ·
   have hlt':(k:Int) < n:=by omega
   have hkc:(k:Int) ≤ cap:=by omega
   obtain ⟨g,hg⟩:∃ g,gs[k]? = some g:=⟨_,List.getElem?_eq_getElem (by have:=HN.out;omega)⟩
   obtain ⟨a,m,c,hcs⟩:=HC.out k g hg
   have sv1:=Sv.later HK.out B
   obtain ⟨b,off,ea,hr⟩:=sv1 k _ hcs
   have eg:gs.getD k ⟨[],0,[]⟩ = g:=by simp [List.getD,hg]
   have q0:=zac wr (.cells #[.string ⟨#[]⟩,.int .i64 0,.slice none 0 0] 62)
   subst ea
   have hco:=fun W hb (hW:Below wr.heap.size wr W) hh=>conN_any (w:=W) (ao:=some ⟨b,off,none⟩) (cap:=cap) (gs.take k) (css.take k) (n:=k) (by have:=HN.out;simp;omega) (by omega) (fun i g' hi=>by
    by_cases hik:i < k
    ·
     rw [List.getElem?_take_of_lt hik] at hi ⊢
     exact HC.out i g' hi
    rw [List.getElem?_take_eq_none (by omega)] at hi
    cases hi) hb g.name #[tx g.name,.int .i64 g.ev,.slice a m c] hh rfl ((sv1.take k).later hW)
   have HNo:Hid ((gs.take k).any (fun x=>x.name == g.name) = true → Q = false):=fun h=>by
    rw [← HQ.out,HD.out]
    exact zcs hlt (by rw [eg,h];rfl)
   have HYes:Hid ((gs.take k).any (fun x=>x.name == g.name) = false → ∀ j,j < k + 1 → (!(gs.take j).any fun x=>x.name == (gs.getD j ⟨[],0,[]⟩).name) = true):=fun h j hj=>by
    by_cases e:j = k
    ·
     subst e;rw [eg,h];rfl
    exact HA.out j (by omega)
   clear HA HK HC sv1 hg hcs eg
   generalize (gs.take k).any (fun x=>x.name == g.name) = an at *
   cases an with
   | false=>
    have HZ:Hid _:=HYes.out rfl
    clear HNo HYes
    go_wp2_with (first | (refine zbi rfl 62 _ rfl b (off + k * 3) #[tx g.name,.int .i64 g.ev,.slice a m c] rfl hr _ Tryz.underlying62 rfl 3 rz62 rfl ?_) | (refine zad rfl 62 _ _ rfl wr.heap.size #[tx g.name,.int .i64 g.ev,.slice a m c] rfl rfl _ 62 q0 3 rz62 rfl ⟨rfl,rfl⟩ ?_;intro w3 p3 o3 z3;have b3:=((Off.of (bal (Below.refl wr.heap.size wr) (.cells #[.string ⟨#[]⟩,.int .i64 0,.slice none 0 0] 62)) []).trans o3 (by simp)).below (by simp)))
    have B3:=Below.chain B b3
    refine (hco _ wr.heap.size b3 p3).mono ?_
    rintro e w4 ⟨rfl,b4⟩
    have B4:=Below.chain B3 b4
    go_wp2_with fail
    go_roundw
    case rel=>exact ⟨k + 1,by omega,by go_num,B4,HZ⟩
    case measure=>simp [intOf];omega
   | true=>
    have HZ:Hid (Q = false):=HNo.out rfl
    clear HNo HYes
    go_wp2_with (first | (refine zbi rfl 62 _ rfl b (off + k * 3) #[tx g.name,.int .i64 g.ev,.slice a m c] rfl hr _ Tryz.underlying62 rfl 3 rz62 rfl ?_) | (refine zad rfl 62 _ _ rfl wr.heap.size #[tx g.name,.int .i64 g.ev,.slice a m c] rfl rfl _ 62 q0 3 rz62 rfl ⟨rfl,rfl⟩ ?_;intro w3 p3 o3 z3;have b3:=((Off.of (bal (Below.refl wr.heap.size wr) (.cells #[.string ⟨#[]⟩,.int .i64 0,.slice none 0 0] 62)) []).trans o3 (by simp)).below (by simp)))
    have B3:=Below.chain B b3
    refine (hco _ wr.heap.size b3 p3).mono ?_
    rintro e w4 ⟨rfl,b4⟩
    have B4:=Below.chain B3 b4
    go_wp2_with fail
    go_ret
    exact ⟨by rw [HZ.out];rfl,B4⟩
  have hlt':¬ (k:Int) < n:=by omega
  have HZ:Hid (Q = true):=by
   show _ = _
   rw [← HQ.out,HD.out,zen]
   exact fun i hi=>HA.out i (by omega)
  clear HA HK HC HD
  go_wp2_with fail
  go_ret
  exact ⟨by rw [HZ.out];rfl,B⟩
theorem zlw (l:List Rl):cellsR l = (l.map rA).flatMap (·.toList):=by
 unfold cellsR
 rw [List.flatMap_map]
theorem zkx {P:Nat → Prop} {w:World} {v:Value} {l:List Rl} (h:SlP P w v l.length (cellsR l)):∃ ao cap,v = .slice ao l.length cap ∧ Sv w ao 6 (l.map rA):=by
 rw [zlw] at h
 obtain ⟨ao,cap,e,_,sv⟩:=Sv.of (k:=6) h (by simp) (fun x hx=>by
  obtain ⟨r,_,rfl⟩:=List.mem_map.1 hx
  rfl)
 exact ⟨ao,cap,e,sv⟩
theorem GsP.view {P:Nat → Prop} {w:World} {v:Value} {l:List Gr} (h:GsP P w v l):∃ ao cap css,v = .slice ao l.length cap ∧ l.length ≤ cap ∧ css.length = l.length ∧ Sv w ao 3 css ∧ (∀ cs ∈ css,Row 3 cs) ∧ ∀ (i:Nat) g,l[i]? = some g → ∃ a m c,css[i]? = some #[tx g.name,.int .i64 g.ev,.slice a m c] ∧ m = g.rs.length ∧ RsP P w (.slice a m c) g.rs:=by
 obtain ⟨vs,hl,hs,hr⟩:=h
 have e0:cellsG l vs = ((l.zip vs).map fun x=>(#[tx x.1.name,.int .i64 x.1.ev,x.2]:Array Value)).flatMap (·.toList):=by
  unfold cellsG
  rw [List.flatMap_map]
 rw [e0] at hs
 obtain ⟨ao,cap,e,hc,sv⟩:=Sv.of (k:=3) hs (by simp [hl]) (fun x hx=>by
  obtain ⟨r,_,rfl⟩:=List.mem_map.1 hx
  rfl)
 have key:∀ (i:Nat) g,l[i]? = some g → ∃ a m c,((l.zip vs).map fun x=>(#[tx x.1.name,.int .i64 x.1.ev,x.2]:Array Value))[i]? = some #[tx g.name,.int .i64 g.ev,.slice a m c] ∧ m = g.rs.length ∧ RsP P w (.slice a m c) g.rs:=fun i g hg=>by
  obtain ⟨u,hu,hR⟩:=hr i g hg
  obtain ⟨a,c,rss,rfl,_⟩:=hR.view
  have hz:(l.zip vs)[i]? = some (g,.slice a g.rs.length c):=List.getElem?_zip_eq_some.2 ⟨hg,hu⟩
  exact ⟨a,_,c,by rw [List.getElem?_map,hz];rfl,rfl,hR⟩
 refine ⟨ao,cap,_,e,hc,by simp [hl],sv,fun cs hcs=>?_,key⟩
 obtain ⟨i,hi⟩:=List.getElem?_of_mem hcs
 have hil:i < l.length:=by
  have:=(List.getElem?_eq_some_iff.1 hi).1
  simp at this
  omega
 obtain ⟨a,m,c,hc',_⟩:=key i l[i] (List.getElem?_eq_getElem hil)
 rw [hi] at hc'
 cases hc'
 exact ⟨rfl,rfl⟩
def gr0:Gr:=⟨[],0,[]⟩
theorem isC_any {P:Nat → Prop} {w:World} {c:Cf} {cs:Array Value} (h:CfP P w c cs) (hf:FitC c) (het:Et w):Calls Tryz.prog 28 #[.agg cs] w fun e w'=>e = .returned (.bool (isCf c)) ∧ Below w.heap.size w w':=by
 obtain ⟨vr,vg,rfl,h1,h2⟩:=h
 obtain ⟨al,cl,rfl,svl⟩:=zkx h1
 obtain ⟨ag,cg,css,rfl,hcg,hcl,svg,hrow,hkey⟩:=h2.view
 have hA:=fun W (hW:Below w.heap.size w W)=>all56_any (cap:=cl) (c.rl.map rA) (by simp) hf.rn (fun i=>Lb.fRule (c.rl.getD i Lb.rl0)) (svl.later hW) (fun cs hcs=>by
  obtain ⟨r,_,rfl⟩:=List.mem_map.1 hcs
  exact ⟨rfl,rfl⟩) (fun i cs hi W' _=>by
  have hil:i < c.rl.length:=by have:=(List.getElem?_eq_some_iff.1 hi).1;simpa using this
  have e:cs = rA (c.rl.getD i Lb.rl0):=by
   rw [List.getElem?_map,List.getElem?_eq_getElem hil] at hi
   simp at hi
   rw [← hi]
   simp [List.getD,List.getElem?_eq_getElem hil]
  have hm:c.rl.getD i Lb.rl0 ∈ c.rl:=by
   have:c.rl.getD i Lb.rl0 = c.rl[i]:=by simp [List.getD,List.getElem?_eq_getElem hil]
   rw [this]
   exact List.getElem_mem hil
  rw [e]
  exact Lb.isR_any _ W' (hf.rl _ hm))
 have hG:=fun W (hW:Below w.heap.size w W)=>all58_any (cap:=cg) css hcl hf.gn (fun i=>isGrB (c.gs.getD i gr0)) (svg.later hW) hrow (fun i cs hi W' hW'=>by
  have hil:i < c.gs.length:=by have:=(List.getElem?_eq_some_iff.1 hi).1;omega
  obtain ⟨a,m,k,hc,rfl,hR⟩:=hkey i c.gs[i] (List.getElem?_eq_getElem hil)
  rw [hi] at hc
  cases hc
  have e:c.gs.getD i gr0 = c.gs[i]:=by simp [List.getD,List.getElem?_eq_getElem hil]
  rw [e]
  have hg:=hf.gs c.gs[i] (List.getElem_mem hil)
  exact zlm (hR.later (Below.chain hW hW')) hg.1 hg.2.2.2.1 hg.2.2.2.2 (het.later (Below.chain hW hW')))
 have hO:=fun W (hW:Below w.heap.size w W)=>once_any (cap:=cg) c.gs css rfl hf.gn hcg (fun i g hi=>by obtain ⟨a,m,k,hc,_⟩:=hkey i g hi;exact ⟨a,m,k,hc⟩) (svg.later hW)
 simp only [all_get] at hA hG
 have HV:Hid (isCf c = (decide (c.rl.length ≤ 6) && c.rl.all Lb.fRule && decide (c.gs.length ≤ 3) && c.gs.all isGrB && onceB c.gs)):=rfl
 have q:=zac w (.cells #[.slice al c.rl.length cl,.slice ag c.gs.length cg] 39)
 have B:=bal (Below.refl w.heap.size w) (.cells #[.slice al c.rl.length cl,.slice ag c.gs.length cg] 39)
 have c0:=(zaa q 0).trans rfl
 generalize c.rl.all Lb.fRule = A at *
 generalize c.gs.all isGrB = G at *
 generalize onceB c.gs = N at *
 generalize isCf c = RR at *
 generalize c.rl.length = ln at *
 generalize c.gs.length = gn at *
 clear h1 h2 hf het hkey svl svg hrow hcl
 by_cases h6:ln ≤ 6
 ·
  have h6':(ln:Int) ≤ 6:=by omega
  cases A with
  | false=>
   go_enter Tryz.func28,Tryz.ntmps28
   go_wp2_with fail
   generalize w.alloc (.cells #[.slice al ln cl,.slice ag gn cg] 39) = w0 at *
   refine (hA _ B).mono ?_
   rintro e w1 ⟨rfl,b1⟩
   have q1:=zab b1 q
   have B1:=Below.chain B b1
   have x1:=(zaa q1 1).trans rfl
   clear c0
   go_wp2_with fail
   go_ret
   exact ⟨by rw [HV.out];simp,B1⟩
  | true=>
   by_cases h3:gn ≤ 3
   ·
    have h3':(gn:Int) ≤ 3:=by omega
    cases G with
    | false=>
     go_enter Tryz.func28,Tryz.ntmps28
     go_wp2_with fail
     generalize w.alloc (.cells #[.slice al ln cl,.slice ag gn cg] 39) = w0 at *
     refine (hA _ B).mono ?_
     rintro e w1 ⟨rfl,b1⟩
     have q1:=zab b1 q
     have B1:=Below.chain B b1
     have x1:=(zaa q1 1).trans rfl
     clear c0
     go_wp2_with fail
     refine (hG _ B1).mono ?_
     rintro e w2 ⟨rfl,b2⟩
     have q2:=zab b2 q1
     have B2:=Below.chain B1 b2
     clear x1
     go_wp2_with fail
     go_ret
     exact ⟨by rw [HV.out];simp,B2⟩
    | true=>
     go_enter Tryz.func28,Tryz.ntmps28
     go_wp2_with fail
     generalize w.alloc (.cells #[.slice al ln cl,.slice ag gn cg] 39) = w0 at *
     refine (hA _ B).mono ?_
     rintro e w1 ⟨rfl,b1⟩
     have q1:=zab b1 q
     have B1:=Below.chain B b1
     have x1:=(zaa q1 1).trans rfl
     clear c0
     go_wp2_with fail
     refine (hG _ B1).mono ?_
     rintro e w2 ⟨rfl,b2⟩
     have q2:=zab b2 q1
     have B2:=Below.chain B1 b2
     clear x1
     have y1:=(zaa q2 1).trans rfl
     go_wp2_with fail
     refine (hO _ B2).mono ?_
     rintro e w3 ⟨rfl,b3⟩
     go_wp2_with fail
     go_ret
     exact ⟨by rw [HV.out];simp [h6,h3],Below.chain B2 b3⟩
   have h3':¬ (gn:Int) ≤ 3:=by omega
   go_enter Tryz.func28,Tryz.ntmps28
   go_wp2_with fail
   generalize w.alloc (.cells #[.slice al ln cl,.slice ag gn cg] 39) = w0 at *
   refine (hA _ B).mono ?_
   rintro e w1 ⟨rfl,b1⟩
   have q1:=zab b1 q
   have B1:=Below.chain B b1
   have x1:=(zaa q1 1).trans rfl
   clear c0
   go_wp2_with fail
   go_ret
   exact ⟨by rw [HV.out];simp [h3],B1⟩
 have h6':¬ (ln:Int) ≤ 6:=by omega
 go_enter Tryz.func28,Tryz.ntmps28
 go_wp2_with fail
 go_ret
 exact ⟨by rw [HV.out];simp [h6],B⟩
end Go.Proofs.YtjlaihekocjggaaGreatDoor
