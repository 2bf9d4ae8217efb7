/- Texts that the others lean on. -/
import Derived.Test.YtjlaihekocjggaaGreatDoorKRVw
set_option maxHeartbeats 16000000
namespace Go.Proofs.YtjlaihekocjggaaGreatDoor
open Go.RowKit
/-! ### Plain -/
def isRuB (r:Ru):Bool:=(fGet r.st nm == []) && fName r.nm && decide (Lb.withE r.st [(nm,r.nm)] = 0) && decide ((ruE (ofE r.e) r.e).2 = 0)
def isGrB (g:Gr):Bool:=isHd g.name g.ev && decide (g.rs.length ≤ 8) && g.rs.all isRuB
def onceB (gs:List Gr):Bool:=(List.range gs.length).all fun i=>!(gs.take i).any fun x=>x.name == (gs.getD i ⟨[],0,[]⟩).name
def isCf (c:Cf):Bool:=decide (c.rl.length ≤ 6) && c.rl.all Lb.fRule && decide (c.gs.length ≤ 3) && c.gs.all isGrB && onceB c.gs
structure FitRu (r:Ru):Prop where
 nm:Big r.nm
 st:Lb.Fit r.st
 ln:r.st.length ≤ 999999
 sm:Sm r.e
 vr:Vr r.e
 pr:(pr9 r.e).length ≤ 1000000
structure FitC (c:Cf):Prop where
 rl:∀ r ∈ c.rl,Lb.FitR r
 rn:c.rl.length ≤ 1000000
 gn:c.gs.length ≤ 1000000
 gs:∀ g ∈ c.gs,Big g.name ∧ -9223372036854775808 ≤ g.ev ∧ g.ev ≤ 9223372036854775807 ∧ g.rs.length ≤ 1000000 ∧ ∀ r ∈ g.rs,FitRu r
theorem all_get {α:Type} (l:List α) (p:α → Bool) (d:α):(List.range l.length).all (fun i=>p (l.getD i d)) = l.all p:=by
 rw [Bool.eq_iff_iff,List.all_eq_true,List.all_eq_true]
 constructor
 ·
  intro h x hx
  obtain ⟨i,hi⟩:=List.getElem?_of_mem hx
  have hl:=(List.getElem?_eq_some_iff.1 hi).1
  have:=h i (by simpa using hl)
  simpa [List.getD,hi] using this
 intro h i hi
 have hl:i < l.length:=by simpa using hi
 have:=h l[i] (List.getElem_mem hl)
 simpa [List.getD,List.getElem?_eq_getElem hl] using this
/-! ### Rules -/
theorem zkv {r:Ru} {ce:Array Value} {vs:Value}:(ruA r ce vs)[0]? = some (tx r.nm):=by
 unfold ruA
 rw [Array.append_assoc,Array.getElem?_append_left (by simp)]
 rfl
theorem ruA_14 {r:Ru} {ce:Array Value} {vs:Value} (h:ce.size = 13):(ruA r ce vs)[14]? = some vs:=by
 unfold ruA
 rw [Array.getElem?_append_right (by simp [h])]
 simp [h]
theorem ruA_mid {r:Ru} {ce:Array Value} {vs:Value} (h:ce.size = 13) {j:Nat} (hj:j < 13):(ruA r ce vs)[1 + j]? = ce[j]?:=by
 unfold ruA
 rw [Array.getElem?_append_left (by simp [h];omega),Array.getElem?_append_right (by simp)]
 simp
theorem ps_of {P:Nat → Prop} {w:World} {v:Value} {l:List Pr} (h:SlP P w v l.length (cellsP l)):∃ ao cap,v = .slice ao l.length cap ∧ Lb.Ps w ao l.length l:=by
 have e0:cellsP l = (l.map fun p=>(#[tx p.1,tx p.2]:Array Value)).flatMap (·.toList):=by
  show Lb.cellsP l = _
  unfold Lb.cellsP
  rw [List.flatMap_map]
 obtain ⟨ao,cap,e,hc,h4⟩:=h
 refine ⟨ao,cap,e,rfl,fun hp=>?_⟩
 obtain ⟨b,off,e1,_,hcs⟩:=h4 hp
 rw [e0] at hcs
 have key:∀ j i,j < l.length → i < 2 → w.cell? ⟨b,off + (j * 2 + i),none⟩ = (#[tx (l.getD j ([],[])).1,tx (l.getD j ([],[])).2]:Array Value)[i]?:=fun j i hj hi=>by
  have hg:=zik 2 (l.map fun p=>(#[tx p.1,tx p.2]:Array Value)) j #[tx (l.getD j ([],[])).1,tx (l.getD j ([],[])).2] (fun x hx=>by
   obtain ⟨p,_,rfl⟩:=List.mem_map.1 hx
   rfl) (by simp [List.getD,List.getElem?_eq_getElem hj]) i hi
  rw [← hg]
  refine hcs _ (List.getElem?_eq_some_iff.1 (hg.trans (Array.getElem?_eq_getElem (by simpa using hi)))).1
 exact ⟨b,off,e1,fun j hj=>⟨by have:=key j 0 hj (by omega);simpa using this,by have:=key j 1 hj (by omega);simpa [Nat.add_assoc] using this⟩⟩
theorem fit1 {s:Str} (h:Big s):Lb.Fit [(nm,s)]:=fun p hp=>by
 have hp':p = (nm,s):=by simpa using hp
 rw [hp']
 exact ⟨by show nm.length ≤ _;decide,h⟩
theorem zja {P:Nat → Prop} {r:Ru} {cs:Array Value} {w:World} (h:RuP P w r cs) (hf:FitRu r):Calls Tryz.prog 185 #[.agg cs] w fun e w'=>∃ ao n cap,e = .returned (.tuple #[.slice ao n cap,.int .i64 (Lb.withE r.st [(nm,r.nm)])]) ∧ n = (Lb.withL r.st [(nm,r.nm)]).length ∧ Lb.Ps w' ao n (Lb.withL r.st [(nm,r.nm)]) ∧ Below w.heap.size w w':=by
 have hrow:=h.row
 obtain ⟨ce,vs,rfl,ht,hs⟩:=h
 have ce13:=ht.row.1
 obtain ⟨ao,cap,rfl,ps⟩:=ps_of hs
 have q:=zac w (.cells (ruA r ce (.slice ao r.st.length cap)) 65)
 have B:=bal (Below.refl w.heap.size w) (.cells (ruA r ce (.slice ao r.st.length cap)) 65)
 have c0:=(zaa q 0).trans zkv
 have c2:=(zaa q 14).trans (ruA_14 ce13)
 have ps0:=ps.later B
 have hwi:=fun W ya (h1:Lb.Ps W ao r.st.length r.st) (h2:Lb.Ps W ya 1 [(nm,r.nm)])=>Lb.with_any ao _ cap r.st ya 1 1 [(nm,r.nm)] W (by have:=hf.ln;omega) (by omega) hf.st (fit1 hf.nm) h1 h2
 have zs:(w.alloc (.cells (ruA r ce (.slice ao r.st.length cap)) 65)).heap.size = w.heap.size + 1:=by simp
 clear hs ps ht
 go_enter Tryz.func185,Tryz.ntmps185
 go_wp2_with fail
 generalize w.alloc (.cells (ruA r ce (.slice ao r.st.length cap)) 65) = w0 at *
 have b1:=bal (Below.refl w0.heap.size w0) (.cells #[.string ⟨#[95,95,110,97,109,101,95,95]⟩,tx r.nm] 69)
 have p1:Lb.Ps (w0.alloc (.cells #[.string ⟨#[95,95,110,97,109,101,95,95]⟩,tx r.nm] 69)) (some ⟨w0.heap.size,0,none⟩) 1 [(nm,r.nm)]:=Lb.Ps.one w0 (nm,r.nm)
 have ps1:=ps0.later b1
 generalize w0.alloc (.cells #[.string ⟨#[95,95,110,97,109,101,95,95]⟩,tx r.nm] 69) = w1 at *
 rw [zs] at p1
 refine (hwi _ _ ps1 p1).mono ?_
 rintro e w2 ⟨v,rfl,own,b2⟩
 obtain ⟨av,cv,rfl,pv⟩:=own.fitN
 go_wp2_with fail
 exact bodyPost_ret (results_tmp2 Tryz.results185 _ _ _) rfl ⟨_,_,_,rfl,rfl,pv,Below.chain (Below.chain B b1) b2⟩
theorem zmv {w:World} {b:Nat} {r:Ru} {ce:Array Value} {vs:Value} (h:w.heap[b]? = some (.cells (ruA r ce vs) 65)) (h13:ce.size = 13):w.rangeAt b 1 ce.toList:=by
 intro j x hx
 have hj:j < 13:=by
  have:=(List.getElem?_eq_some_iff.1 hx).1
  simp at this
  omega
 rw [zaa h,ruA_mid h13 hj]
 simpa using hx
theorem zoo {P:Nat → Prop} {r:Ru} {cs:Array Value} {w:World} (h:RuP P w r cs) (hf:FitRu r) (het:Et w):Calls Tryz.prog 106 #[.agg cs] w fun e w'=>e = .returned (.bool (isRuB r)) ∧ Below w.heap.size w w':=by
 have hrow:=h.row
 have hso:=fun W (hW:Below w.heap.size w W)=>zja (h.later hW) hf
 have hru0:=fun (ce:Array Value) W (ht:TrP P W r.e ce) (h2:Et W)=>zmr ht hf.sm h2
 obtain ⟨ce,vs,rfl,ht,hs⟩:=h
 have ce13:=ht.row.1
 obtain ⟨ao,cap,rfl,ps⟩:=ps_of hs
 have q:=zac w (.cells (ruA r ce (.slice ao r.st.length cap)) 65)
 have B:=bal (Below.refl w.heap.size w) (.cells (ruA r ce (.slice ao r.st.length cap)) 65)
 have c0:=(zaa q 0).trans zkv
 have c2:=(zaa q 14).trans (ruA_14 ce13)
 have ps0:=ps.later B
 have hge:=fun W (h1:Lb.Ps W ao r.st.length r.st)=>Lb.get_any ao _ cap r.st nm W (by have:=hf.ln;omega) h1
 have hna:=fun W=>zbx r.nm W hf.nm
 have hru:=hru0 ce
 have HV:Hid (isRuB r = ((fGet r.st nm == []) && fName r.nm && decide (Lb.withE r.st [(nm,r.nm)] = 0) && decide ((ruE (ofE r.e) r.e).2 = 0))):=rfl
 clear hs ps hru0
 by_cases hg:fGet r.st nm = []
 ·
  have hg1:(fGet r.st nm != ([]:Str)) = false:=by rw [bne_eq_false_iff_eq];exact hg
  have hg2:(fGet r.st nm == ([]:Str)) = true:=beq_iff_eq.2 hg
  cases hn:fName r.nm with
  | false=>
   have HN:Hid (isRuB r = false):=by show _ = _;rw [HV.out,hn];simp
   rw [hn] at hna
   clear HV
   go_enter Tryz.func106,Tryz.ntmps106
   go_wp2_with fail
   generalize w.alloc (.cells (ruA r ce (.slice ao r.st.length cap)) 65) = w0 at *
   refine (hge _ ps0).mono ?_
   rintro e w1 ⟨rfl,b1⟩
   have q1:=zab b1 q
   have B1:=Below.chain B b1
   have x0:=(zaa q1 0).trans zkv
   clear c0 c2
   go_wp2_with fail
   refine (hna _).mono ?_
   rintro e w2 ⟨rfl,rfl⟩
   go_wp2_with fail
   go_ret
   exact ⟨by rw [HN.out];rfl,B1⟩
  | true=>
   rw [hn] at hna
   by_cases hw:Lb.withE r.st [(nm,r.nm)] = 0
   ·
    have hw1:(Lb.withE r.st [(nm,r.nm)] != 0) = false:=by rw [bne_eq_false_iff_eq];exact hw
    have hw2:(Lb.withE r.st [(nm,r.nm)] == 0) = true:=beq_iff_eq.2 hw
    have HN:Hid (isRuB r = ((ruE (ofE r.e) r.e).2 == 0)):=by
     show _ = _
     rw [HV.out,hn,hg2,decide_eq_true hw,Bool.beq_eq_decide_eq]
     rfl
    clear HV
    go_enter Tryz.func106,Tryz.ntmps106
    go_wp2_with fail
    generalize w.alloc (.cells (ruA r ce (.slice ao r.st.length cap)) 65) = w0 at *
    refine (hge _ ps0).mono ?_
    rintro e w1 ⟨rfl,b1⟩
    have q1:=zab b1 q
    have B1:=Below.chain B b1
    have x0:=(zaa q1 0).trans zkv
    clear c0 c2
    go_wp2_with fail
    refine (hna _).mono ?_
    rintro e w2 ⟨rfl,rfl⟩
    go_wp2_with (refine zaj rfl 65 _ rfl w.heap.size (ruA r ce (.slice ao r.st.length cap)) 65 rfl q1 _ Tryz.underlying65 rfl 15 rz65 hrow.1 ?_)
    refine (hso _ B1).mono ?_
    rintro e w3 ⟨a3,n3,k3,rfl,_,_,b3⟩
    have q3:=zab b3 q1
    have B3:=Below.chain B1 b3
    go_wp2_with (refine zbi rfl 28 _ rfl w.heap.size 1 ce rfl (zmv q3 ce13) _ Tryz.underlying28 rfl 13 zae ce13 ?_)
    refine (hru _ (TrP.later ht B3) (het.later B3)).mono ?_
    rintro e w4 ⟨rfl,b4⟩
    go_wp2_with fail
    go_ret
    exact ⟨by rw [HN.out];rfl,Below.chain B3 b4⟩
   have hw1:(Lb.withE r.st [(nm,r.nm)] != 0) = true:=by rw [bne_iff_ne];exact hw
   have hw2:(Lb.withE r.st [(nm,r.nm)] == 0) = false:=beq_eq_false_iff_ne.2 hw
   have HN:Hid (isRuB r = false):=by show _ = _;rw [HV.out,decide_eq_false hw];simp
   clear HV
   go_enter Tryz.func106,Tryz.ntmps106
   go_wp2_with fail
   generalize w.alloc (.cells (ruA r ce (.slice ao r.st.length cap)) 65) = w0 at *
   refine (hge _ ps0).mono ?_
   rintro e w1 ⟨rfl,b1⟩
   have q1:=zab b1 q
   have B1:=Below.chain B b1
   have x0:=(zaa q1 0).trans zkv
   clear c0 c2
   go_wp2_with fail
   refine (hna _).mono ?_
   rintro e w2 ⟨rfl,rfl⟩
   go_wp2_with (refine zaj rfl 65 _ rfl w.heap.size (ruA r ce (.slice ao r.st.length cap)) 65 rfl q1 _ Tryz.underlying65 rfl 15 rz65 hrow.1 ?_)
   refine (hso _ B1).mono ?_
   rintro e w3 ⟨a3,n3,k3,rfl,_,_,b3⟩
   go_wp2_with fail
   go_ret
   exact ⟨by rw [HN.out];rfl,Below.chain B1 b3⟩
 have hg1:(fGet r.st nm != ([]:Str)) = true:=by rw [bne_iff_ne];exact hg
 have hg2:(fGet r.st nm == ([]:Str)) = false:=beq_eq_false_iff_ne.2 hg
 have HN:Hid (isRuB r = false):=by show _ = _;rw [HV.out,hg2];simp
 clear HV
 go_enter Tryz.func106,Tryz.ntmps106
 go_wp2_with fail
 generalize w.alloc (.cells (ruA r ce (.slice ao r.st.length cap)) 65) = w0 at *
 refine (hge _ ps0).mono ?_
 rintro e w1 ⟨rfl,b1⟩
 have q1:=zab b1 q
 have B1:=Below.chain B b1
 have x0:=(zaa q1 0).trans zkv
 clear c0 c2
 go_wp2_with fail
 go_ret
 exact ⟨by rw [HN.out];rfl,B1⟩
theorem zdz (n:Str) (y:Int) (a:Option Addr) (m c:Nat) (w:World):Calls Tryz.prog 103 #[.agg #[tx n,.int .i64 y,.slice a m c]] w fun e w'=>e = .returned (.agg #[tx n,.int .i64 y,.slice a m c]) ∧ Below w.heap.size w w':=by
 have qa:=zac w (.cells #[tx n,.int .i64 y,.slice a m c] 62)
 have Ba:=bal (Below.refl w.heap.size w) (.cells #[tx n,.int .i64 y,.slice a m c] 62)
 have qb:=zac (w.alloc (.cells #[tx n,.int .i64 y,.slice a m c] 62)) (.cells #[.string ⟨#[]⟩,.int .i64 0,.slice none 0 0] 138)
 have Bb:=Below.chain Ba (bal (Below.refl _ (w.alloc (.cells #[tx n,.int .i64 y,.slice a m c] 62))) (.cells #[.string ⟨#[]⟩,.int .i64 0,.slice none 0 0] 138))
 have qa:=zat qa (.cells #[.string ⟨#[]⟩,.int .i64 0,.slice none 0 0] 138)
 have zs:(w.alloc (.cells #[tx n,.int .i64 y,.slice a m c] 62)).heap.size = w.heap.size + 1:=by simp
 rw [zs] at qb
 have c0:=(zaa qa 0).trans rfl
 have c1:=(zaa qa 1).trans rfl
 have c2:=(zaa qa 2).trans rfl
 go_enter Tryz.func103,Tryz.ntmps103
 go_wp2_with (refine zad rfl 138 _ _ rfl (w.heap.size + 1) #[tx n,.int .i64 y,.slice a m c] rfl rfl _ 138 qb 3 zgq rfl ⟨rfl,rfl⟩ ?_;intro w9 q9 o9 z9)
 exact bodyPost_ret (zak Tryz.results103 _ _ (w.heap.size + 1) 138 #[tx n,.int .i64 y,.slice a m c] _ rfl q9 Tryz.underlying138 rfl 3 zgq rfl) rfl ⟨rfl,((Off.of Bb []).trans o9 (by simp)).below (by simp)⟩
end Go.Proofs.YtjlaihekocjggaaGreatDoor
