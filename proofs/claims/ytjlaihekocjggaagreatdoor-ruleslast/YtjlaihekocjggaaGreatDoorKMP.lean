/- Texts that the others lean on. -/
import Derived.Lib.ItoaLen
import Derived.Test.YtjlaihekocjggaaGreatDoorKML
import Derived.Test.YtjlaihekocjggaaGreatDoorKMG
import Derived.Test.YtjlaihekocjggaaGreatDoorKMX
set_option maxHeartbeats 16000000
namespace Go.Proofs.YtjlaihekocjggaaGreatDoor
open Go.RowKit
theorem zbm {w:World} {ops:Array Oper} {rest:List Oper} {o:Oper} {a:Act} {Q:Exit → Act → World → Prop} (hgd:o.guard = none) (t u:TypeId) (x y:Operand) (ho:o.op = .binOp .add t x y u) (s r:Str) (hx:a.eval x = tx s) (hy:a.eval y = tx r) (hl:s.length + r.length ≤ 8388608)
  (h:wpList Tryz.prog ops Q rest (a.put o.dst (tx (s ++ r))) w):wpList Tryz.prog ops Q (o :: rest) a w:=by
 refine wpList_plain hgd fun K hK=>?_
 have k:=hK _ _ h
 unfold Oper.wp
 rw [zam ho s r hx hy hl _ rfl w]
 exact k
theorem zjq {P:Nat → Prop} {a:Option Addr} {n c:Nat} {l:List Str} {w:World} (sep:Str) (h:SlP P w (.slice a n c) l.length (l.map tx)) (hl:(Lib.join l sep).length ≤ 1000000) (hN:l.length ≤ 1000000) :
  Calls Tryz.prog 147 #[.slice a n c,tx sep] w fun e w'=>e = .returned (tx (Lib.join l sep)) ∧ Below w.heap.size w w':=by
 obtain ⟨h1,h2,h3⟩:=h.strs
 subst h1
 by_cases h0:l.length = 0
 ·
  obtain rfl:l = []:=List.length_eq_zero_iff.1 h0
  refine (Tryz.strings_Join_none a c ⟨sep.toArray⟩ w).mono ?_
  rintro e w' ⟨rfl,rfl⟩
  exact ⟨rfl,Below.refl _ _⟩
 obtain ⟨b,off,rfl,hc0⟩:=h3 0 (by omega)
 have em:(l.map fun s=>(⟨s.toArray⟩:ByteArray)).map (·.data.toList) = l:=by
  rw [List.map_map]
  conv=>rhs;rw [← List.map_id l]
  apply List.map_congr_left
  intro s _
  simp
 have h:=Tryz.strings_Join b off c (l.map fun s=>(⟨s.toArray⟩:ByteArray)) ⟨sep.toArray⟩ w (fun j x hx=>by
  rw [List.getElem?_map] at hx
  cases hj:l[j]? with
  | none=>rw [hj] at hx;cases hx
  | some s=>
   rw [hj] at hx
   cases hx
   have hlt:j < l.length:=(List.getElem?_eq_some_iff.1 hj).1
   obtain ⟨b',off',e',hc⟩:=h3 j hlt
   injection e' with e'
   injection e' with q1 q2
   subst q1 q2
   rw [hc,List.getD,hj]
   rfl) (World.block_lt_of_cell? _ _ hc0) (by simp;omega) (by simpa using h2) (by rw [em];show (Lib.join l sep).length ≤ _;omega)
 rw [em] at h
 simp only [List.length_map] at h
 exact h.mono fun e w' ⟨he,hb⟩=>⟨he,hb⟩
def gw (b1 b2 b3 b4:Bool):Str:=if b1 then [98,121] else if b2 then [119,105,116,104,111,117,116] else if b3 then [111,110] else if b4 then [105,103,110,111,114,105,110,103] else []
def gpS (b1 b2 b3 b4:Bool) (ns:List Str):Str:=if gw b1 b2 b3 b4 = [] then [] else gw b1 b2 b3 b4 ++ [32,40] ++ Lib.join ns [44,32] ++ [41,32]
theorem word_any (k p:Int) (o:Bool) (v:Int) (s:Str) (am an ak:Option Addr) (nm cm nn cn nk ck:Nat) (r:Int) (b1 b2 b3 b4:Bool) (w:World):Calls Tryz.prog 146 #[.agg (exA k p o v s (.slice am nm cm) r b1 b2 b3 b4 (.slice an nn cn) (.slice ak nk ck))] w fun e w'=>e = .returned (tx (gw b1 b2 b3 b4)) ∧ Below w.heap.size w w':=by
 have qa:=zac w (.cells (exA k p o v s (.slice am nm cm) r b1 b2 b3 b4 (.slice an nn cn) (.slice ak nk ck)) 28)
 have B1:=bal (Below.refl w.heap.size w) (.cells (exA k p o v s (.slice am nm cm) r b1 b2 b3 b4 (.slice an nn cn) (.slice ak nk ck)) 28)
 have x7:=(zaa qa 7).trans rfl
 have x8:=(zaa qa 8).trans rfl
 have x9:=(zaa qa 9).trans rfl
 have x10:=(zaa qa 10).trans rfl
 clear qa
 cases b1 with
 | true=>
  go_enter Tryz.func146,Tryz.ntmps146
  go_wp2_with fail
  go_ret
  exact ⟨rfl,B1⟩
 | false=>
  cases b2 with
  | true=>
   go_enter Tryz.func146,Tryz.ntmps146
   go_wp2_with fail
   go_ret
   exact ⟨rfl,B1⟩
  | false=>
   cases b3 with
   | true=>
    go_enter Tryz.func146,Tryz.ntmps146
    go_wp2_with fail
    go_ret
    exact ⟨rfl,B1⟩
   | false=>
    cases b4 with
    | true=>
     go_enter Tryz.func146,Tryz.ntmps146
     go_wp2_with fail
     go_ret
     exact ⟨rfl,B1⟩
    | false=>
     go_enter Tryz.func146,Tryz.ntmps146
     go_wp2_with fail
     go_ret
     exact ⟨rfl,B1⟩
theorem zni {P:Nat → Prop} (k p:Int) (o:Bool) (v:Int) (s:Str) (am an ak:Option Addr) (nm cm nn cn nk ck:Nat) (r:Int) (b1 b2 b3 b4:Bool) (ns:List Str) (w:World) (hn:SlP P w (.slice an nn cn) ns.length (ns.map tx)) (hN:ns.length ≤ 1000000) (hl:(Lib.join ns [44,32]).length ≤ 1000000) :
  Calls Tryz.prog 81 #[.agg (exA k p o v s (.slice am nm cm) r b1 b2 b3 b4 (.slice an nn cn) (.slice ak nk ck))] w fun e w'=>e = .returned (tx (gpS b1 b2 b3 b4 ns)) ∧ Below w.heap.size w w':=by
 have hw:=fun W=>word_any k p o v s am an ak nm cm nn cn nk ck r b1 b2 b3 b4 W
 have hj:=fun W (hW:Below w.heap.size w W)=>zjq [44,32] (SlP.later hn hW) hl hN
 have HG:Hid (gpS b1 b2 b3 b4 ns = if gw b1 b2 b3 b4 = [] then [] else gw b1 b2 b3 b4 ++ [32,40] ++ Lib.join ns [44,32] ++ [41,32]):=rfl
 have hg8:(gw b1 b2 b3 b4).length ≤ 8:=by cases b1 <;> cases b2 <;> cases b3 <;> cases b4 <;> simp [gw]
 generalize gpS b1 b2 b3 b4 ns = RES at *
 generalize gw b1 b2 b3 b4 = g at *
 generalize Lib.join ns [44,32] = J at *
 have qa:=zac w (.cells (exA k p o v s (.slice am nm cm) r b1 b2 b3 b4 (.slice an nn cn) (.slice ak nk ck)) 28)
 have B1:=bal (Below.refl w.heap.size w) (.cells (exA k p o v s (.slice am nm cm) r b1 b2 b3 b4 (.slice an nn cn) (.slice ak nk ck)) 28)
 go_enter Tryz.func81,Tryz.ntmps81
 go_upto_region 1 with fail
 generalize w.alloc (.cells (exA k p o v s (.slice am nm cm) r b1 b2 b3 b4 (.slice an nn cn) (.slice ak nk ck)) 28) = w1 at *
 go_wp2_with (refine zaj rfl 28 _ rfl w.heap.size (exA k p o v s (.slice am nm cm) r b1 b2 b3 b4 (.slice an nn cn) (.slice ak nk ck)) 28 rfl qa _ Tryz.underlying28 rfl 13 zae rfl ?_)
 refine (hw _).mono ?_
 rintro e w2 ⟨rfl,b2x⟩
 have B2:=B1.trans (b2x.mono B1.size)
 have qb:=zab b2x qa
 have x11:=(zaa qb 11).trans rfl
 by_cases h0:g = []
 ·
  subst h0
  have HR:Hid (RES = []):=HG.out
  clear HG
  go_wp2_with fail
  go_ret
  exact ⟨by rw [HR.out];rfl,B2⟩
 have HR:Hid (RES = g ++ [32,40] ++ J ++ [41,32]):=by show _ = _;rw [HG.out,if_neg h0]
 have t0:(g == []) = false:=beq_eq_false_iff_ne.2 h0
 clear HG h0
 go_wp2_with (refine zbm rfl 9 9 _ _ rfl _ _ rfl rfl (by simp;omega) ?_)
 refine (hj _ B2).mono ?_
 rintro e w3 ⟨rfl,b3x⟩
 have B3:=B2.trans (b3x.mono B2.size)
 go_wp2_with (refine zbm rfl 9 9 _ _ rfl _ _ rfl rfl (by simp;omega) ?_)
 go_ret
 exact ⟨by rw [HR.out];simp,B3⟩
def mSg (k:Int):Str:=if k = 1 then [61] else if k = 2 then [33,61] else if k = 3 then [94,61] else if k = 4 then [42,61] else []
theorem zix (k:Int) (w:World):Calls Tryz.prog 218 #[.int .i64 k] w fun e w'=>e = .returned (tx (mSg k)) ∧ w = w':=by
 unfold mSg
 by_cases h1:k = 1
 ·
  subst h1
  go_enter Tryz.func218,Tryz.ntmps218
  go_wp2_with fail
  go_ret
  exact ⟨rfl,rfl⟩
 have t1:(k == 1) = false:=beq_eq_false_iff_ne.2 h1
 rw [if_neg h1]
 by_cases h2:k = 2
 ·
  subst h2
  go_enter Tryz.func218,Tryz.ntmps218
  go_wp2_with fail
  go_ret
  exact ⟨rfl,rfl⟩
 have t2:(k == 2) = false:=beq_eq_false_iff_ne.2 h2
 rw [if_neg h2]
 by_cases h3:k = 3
 ·
  subst h3
  go_enter Tryz.func218,Tryz.ntmps218
  go_wp2_with fail
  go_ret
  exact ⟨rfl,rfl⟩
 have t3:(k == 3) = false:=beq_eq_false_iff_ne.2 h3
 rw [if_neg h3]
 by_cases h4:k = 4
 ·
  subst h4
  go_enter Tryz.func218,Tryz.ntmps218
  go_wp2_with fail
  go_ret
  exact ⟨rfl,rfl⟩
 have t4:(k == 4) = false:=beq_eq_false_iff_ne.2 h4
 rw [if_neg h4]
 go_enter Tryz.func218,Tryz.ntmps218
 go_wp2_with fail
 go_ret
 exact ⟨rfl,rfl⟩
def isMet (x:Mt):Bool:=x.name == [95,95,110,97,109,101,95,95] && x.kind == 1 && fName x.text
def ptN:List Mt → Str × List Mt
 | []=>([],[])
 | x :: l=>if isMet x then (x.text,l) else ([],x :: l)
theorem SlP.tail {P:Nat → Prop} {w:World} {b off n c:Nat} {x:Mt} {l:List Mt} (h:SlP P w (.slice (some ⟨b,off,none⟩) n c) (x :: l).length (cellsM (x :: l))):SlP P w (.slice (some ⟨b,off + 3,none⟩) (n - 1) (c - 1)) l.length (cellsM l):=by
 obtain ⟨ao,cap,e,hc,h4⟩:=h
 injection e with e1 e2 e3
 subst e1 e2 e3
 refine ⟨_,_,rfl,by simp at hc ⊢;omega,fun hp=>?_⟩
 obtain ⟨b',off',e',hP,hcs⟩:=h4 (by simp)
 injection e' with e'
 injection e' with q1 q2
 subst q1 q2
 refine ⟨_,_,rfl,hP,fun j hj=>?_⟩
 have e:cellsM (x :: l) = [tx x.name,.int .i64 x.kind,tx x.text] ++ cellsM l:=rfl
 have:=hcs (j + 3) (by rw [e];simp;omega)
 rw [show off + 3 + j = off + (j + 3) by omega,this,e,List.getElem?_append_right (by simp)]
 simp
theorem zoe {P:Nat → Prop} {w:World} {am:Option Addr} {nm cm:Nat} {m:List Mt} (hm:SlP P w (.slice am nm cm) m.length (cellsM m)) (hb:∀ x ∈ m,Big x.text) (hn:nm ≤ 9223372036854775807) :
  Calls Tryz.prog 87 #[.slice am nm cm] w fun e w'=>∃ a n c,e = .returned (.tuple #[tx (ptN m).1,.slice a n c]) ∧ SlP P w (.slice a n c) (ptN m).2.length (cellsM (ptN m).2) ∧ Below w.heap.size w w':=by
 have em:=hm.mats.1
 have ec:=hm.mats.2.1
 have hq:=hm.mats.2.2
 cases m with
 | nil=>
  have e0:nm = 0:=em
  subst e0
  have HS:Hid _:=hm
  clear hm hb hq em ec
  go_enter Tryz.func87,Tryz.ntmps87
  go_wp2_with fail
  go_ret2
  exact ⟨am,0,cm,rfl,HS.out,Below.refl _ _⟩
 | cons x l=>
  have hp:0 < nm:=by rw [em];simp
  have hp':(0:Int) < nm:=by omega
  have hc1:(1:Int) ≤ cm:=by omega
  have hn1:(1:Int) ≤ nm:=by omega
  obtain ⟨b,off,ea,k0,k1,k2⟩:=hq 0 hp
  subst ea
  simp only [List.getD_cons_zero,Nat.zero_mul,Nat.add_zero] at k0 k1 k2
  have HS:Hid _:=hm
  have hnm:=fun W=>zbx x.text W (by have:=hb x (by simp);unfold Big at this;omega)
  have HE:Hid (nm = l.length + 1):=em
  have hcn:nm ≤ cm:=ec
  have HP:Hid (ptN (x :: l) = if isMet x then (x.text,l) else ([],x :: l)):=rfl
  have HM:Hid (isMet x = (x.name == [95,95,110,97,109,101,95,95] && x.kind == 1 && fName x.text)):=rfl
  clear hm hb hq em ec
  generalize ptN (x :: l) = R at *
  generalize isMet x = M at *
  cases h1:(x.name == [95,95,110,97,109,101,95,95]) with
  | false=>
   have HR:Hid (R = ([],x :: l)):=by show _ = _;rw [HP.out,HM.out,h1];rfl
   clear HP HM
   go_enter Tryz.func87,Tryz.ntmps87
   go_wp2_with fail
   go_ret2
   exact ⟨_,_,_,by rw [HR.out];rfl,by rw [HR.out];exact HS.out,Below.refl _ _⟩
  | true=>
   cases h2:(x.kind == 1) with
   | false=>
    have HR:Hid (R = ([],x :: l)):=by show _ = _;rw [HP.out,HM.out,h1,h2];rfl
    clear HP HM
    go_enter Tryz.func87,Tryz.ntmps87
    go_wp2_with fail
    go_ret2
    exact ⟨_,_,_,by rw [HR.out];rfl,by rw [HR.out];exact HS.out,Below.refl _ _⟩
   | true=>
    cases h3:fName x.text with
    | false=>
     have HR:Hid (R = ([],x :: l)):=by show _ = _;rw [HP.out,HM.out,h1,h2,h3];rfl
     rw [h3] at hnm
     clear HP HM h3
     go_enter Tryz.func87,Tryz.ntmps87
     go_wp2_with (go_at_call 150;refine (hnm _).mono ?_;rintro e w' ⟨rfl,rfl⟩)
     go_ret2
     exact ⟨_,_,_,by rw [HR.out];rfl,by rw [HR.out];exact HS.out,Below.refl _ _⟩
    | true=>
     have HR:Hid (R = (x.text,l)):=by show _ = _;rw [HP.out,HM.out,h1,h2,h3];rfl
     rw [h3] at hnm
     clear HP HM h3
     go_enter Tryz.func87,Tryz.ntmps87
     go_upto_region 2 with (go_at_call 150;refine (hnm _).mono ?_;rintro e w' ⟨rfl,rfl⟩)
     go_quiet (fail)
     go_wp2_with fail
     ·
      go_ret2
      refine ⟨_,_,_,by rw [HR.out];rfl,?_,Fx.below_drewN (Below.refl _ _) _⟩
      rw [HR.out]
      have e1:nm - 1 = 0:=by omega
      have e2:=HE.out
      obtain rfl:l = []:=List.length_eq_zero_iff.1 (by omega)
      rw [e1]
      exact ⟨_,_,rfl,Nat.zero_le _,fun h=>by simp at h⟩
     go_ret2
     exact ⟨_,_,_,by rw [HR.out];rfl,by rw [HR.out];exact SlP.tail HS.out,Fx.below_drewN (Below.refl _ _) _⟩
def qtx (s:Str):Str:=[34] ++ esc s ++ [34]
def mTx (x:Mt):Str:=x.name ++ mSg x.kind ++ qtx x.text
def pMs (m:List Mt):Str:=Lib.join (m.map mTx) [44,32]
def tT (s:Str):Tk:=⟨4,0,s,false,0,0⟩
theorem prL_one (x:Tk) (h:prT x ≠ []):prL [x] = prT x:=by
 unfold prL txs
 have:(prT x).isEmpty = false:=by
  cases hh:prT x with
  | nil=>exact absurd hh h
  | cons c r=>rfl
 simp [this,Lib.join]
theorem prL_tT (s:Str):prL [tT s] = qtx s:=by
 rw [prL_one _ (by show [34] ++ esc s ++ [34] ≠ [];simp)]
 rfl
theorem Ts.one {w:World} {b:Nat} {x:Tk} {t:TypeId} (h:w.heap[b]? = some (.cells (tcs x) t)):Ts w (some ⟨b,0,none⟩) 1 [x]:=by
 refine ⟨rfl,fun _=>⟨b,0,rfl,fun j hj i hi=>?_⟩⟩
 obtain rfl:j = 0:=by omega
 rw [zaa h]
 simp only [Nat.zero_mul,Nat.zero_add,List.getD_cons_zero]
 match i,hi with
 | 0,_=>rfl
 | 1,_=>rfl
 | 2,_=>rfl
 | 3,_=>rfl
 | 4,_=>rfl
 | 5,_=>rfl
theorem znb (x:Tk) (b:Nat) (w:World) {t:TypeId} (h:w.heap[b]? = some (.cells (tcs x) t)) (hf:FineT x) (hj:(prL [x]).length ≤ 1000000) (he:Ev w):Calls Tryz.prog 145 #[.slice (some ⟨b,0,none⟩) 1 1] w fun e w'=>e = .returned (tx (prL [x])) ∧ Below w.heap.size w w':=
 print_any _ 1 1 [x] w (by omega) (Ts.one h) (fun y hy=>by rw [List.mem_singleton.1 hy];exact hf) hj he
theorem qtx_len (s:Str) (h:s.length ≤ 1000):(qtx s).length ≤ 5000:=by
 have:=zez s
 unfold qtx
 simp
 omega
theorem pMs_any {P:Nat → Prop} {w:World} {am:Option Addr} {nm cm:Nat} {m:List Mt} (hm:SlP P w (.slice am nm cm) m.length (cellsM m)) (hx:∀ x ∈ m,x.name.length ≤ 100000 ∧ x.text.length ≤ 1000) (hn:nm ≤ 100000) (hl:(pMs m).length ≤ 1000000) (he:Ev w) :
  Calls Tryz.prog 144 #[.slice am nm cm] w fun e w'=>e = .returned (tx (pMs m)) ∧ Below w.heap.size w w':=by
 obtain ⟨i0,hi,hz0,hz1,hz2⟩:=zbz
 have HS:Hid _:=hm
 have HZ:Hid (nm = m.length):=hm.mats.1
 have HX:Hid _:=hx
 have HJ:Hid ((pMs m).length ≤ 1000000):=hl
 clear hm hx hl
 go_enter Tryz.func144,Tryz.ntmps144
 go_wp2_with fail
 go_loopw [9,3] (fun i u wr=>∃ (j:Nat) (v:Value),j ≤ nm ∧ i = .int .i64 j ∧ v = u ∧ OwnS wr w.heap.size v ((m.take j).map mTx) ∧ Below w.heap.size w wr) (fun i _ _=>nm - (intOf i).toNat)
 case atStart=>exact ⟨0,_,by omega,rfl,rfl,World.ownsRow_made w #[] 0 (Nat.le_refl _) (Nat.zero_le _) (by simp),bal (Below.refl _ _) _⟩
 case round=>
  obtain ⟨j,v,hjn,rfl,rfl,ho,hb⟩:=hrel
  by_cases hlt:j < nm
  ·
   have hlt':(j:Int) < nm:=by omega
   have HK:Hid (j < m.length):=by have:=HZ.out;show _ < _;omega
   obtain ⟨b,off,ea,k0,k1,k2⟩:=(SlP.later HS.out hb).mats.2.2 j hlt
   have hxx:=HX.out _ (zfq m j ⟨[],0,[]⟩ HK.out)
   have HL:Hid ((m.take (j + 1)).map mTx = (m.take j).map mTx ++ [mTx (m.getD j ⟨[],0,[]⟩)]):=by
    show _ = _
    rw [List.take_succ_eq_append_getElem HK.out,List.map_append]
    simp [List.getD,List.getElem?_eq_getElem HK.out]
   have HLe:Hid (((m.take j).map mTx).length ≤ j):=by show _ ≤ _;simp;omega
   subst ea
   generalize m.getD j ⟨[],0,[]⟩ = x at *
   obtain ⟨hx1,hx2⟩:=hxx
   have hsg:(mSg x.kind).length ≤ 2:=by unfold mSg;split <;> (try split) <;> (try split) <;> (try split) <;> simp
   have hql:=qtx_len x.text hx2
   have hlx:∀ (b:Nat) (W:World),W.heap[b]? = some (.cells (tcs (tT x.text)) 161) → Ev W → Calls Tryz.prog 145 #[.slice (some ⟨b,0,none⟩) 1 1] W fun e w'=>e = .returned (tx (qtx x.text)) ∧ Below W.heap.size W w':=fun b W h hE=>by
    have:=znb (tT x.text) b W h ⟨hx2,by show (-9223372036854775808:Int) ≤ 0;omega,by show (0:Int) ≤ _;omega,by show (-9223372036854775808:Int) ≤ 0;omega,by show (0:Int) ≤ _;omega⟩ (by rw [prL_tT];omega) hE
    rwa [prL_tT] at this
   have Ba:=bal hb (.cells (mA mz) 57)
   have ho1:=ho.later (bal (Below.refl wr.heap.size wr) (.cells (mA mz) 57))
   have q0:=zac wr (.cells (mA mz) 57)
   go_wp2_with (refine zad rfl 57 _ _ rfl wr.heap.size (mA x) rfl rfl _ 57 q0 3 zex rfl ⟨rfl,rfl⟩ ?_;intro w2 q2 o2 z2)
   have B2:=((Off.of Ba []).trans o2 (by simp;exact hb.size)).below (by simp)
   have hev:=he.later B2
   have ho2:OwnS w2 w.heap.size v ((m.take j).map mTx):=ho.later (((Off.of (bal (Below.refl wr.heap.size wr) (.cells (mA mz) 57)) []).trans o2 (by simp)).below (by simp))
   have zb:=hb.size
   clear ho1 Ba q0 o2 k0 k1 k2 hb
   have hx9:some wr.heap.size ≠ v.ownBlock:=fun e=>by have:=(World.ownsRow.lt ho _ e.symm).2;omega
   clear ho
   have C0:=zag w2
   have S0:=zab C0 q2
   refine wp_region_noPanic ?_
   refine wp_region_held_drew (S:=fun W:World=>W.heap[wr.heap.size]? = some (.cells (mA x) 57)) (by kernel_rfl) ?_ (fun _=>?_)
   ·
    exact S0
   generalize w2.drew = w3 at *
   refine tk 0 13 (v) rfl (fun W hSw=>by go_simp) S0 ?_
   simp only [Act.put,pB,pC,pD]
   refine tk 1 14 (.pointer (some ⟨wr.heap.size,0,none⟩)) rfl (fun W hSw=>by go_simp) S0 ?_
   simp only [Act.put,pB,pC,pD]
   refine tk 2 15 (tx x.name) rfl (fun W hSw=>by (have hc:=(zaa hSw 0).trans rfl;go_simp)) S0 ?_
   simp only [Act.put,pB,pC,pD]
   refine tk 3 16 (.pointer (some ⟨wr.heap.size,1,none⟩)) rfl (fun W hSw=>by go_simp) S0 ?_
   simp only [Act.put,pB,pC,pD]
   refine tk 4 17 (.int .i64 x.kind) rfl (fun W hSw=>by (have hc:=(zaa hSw 1).trans rfl;go_simp)) S0 ?_
   simp only [Act.put,pB,pC,pD]
   refine tk 7 20 (.pointer (some ⟨wr.heap.size,2,none⟩)) rfl (fun W hSw=>by go_simp) S0 ?_
   simp only [Act.put,pB,pC,pD]
   refine tk 8 21 (tx x.text) rfl (fun W hSw=>by (have hc:=(zaa hSw 2).trans rfl;go_simp)) S0 ?_
   simp only [Act.put,pB,pC,pD]
   refine tk 9 22 (.agg #[.int .i64 4,.int .i64 0,tx x.text,.bool false,.int .i64 0,.int .i64 0]) rfl (fun W hSw=>by go_simp) S0 ?_
   simp only [Act.put,pB,pC,pD]
   refine wpAnyH_ready (rs:=[5,10]) (by kernel_rfl) (by simp) ?_
   refine AllReadyH.cons rfl (fun K hK=>?_) (AllReadyH.cons rfl (fun K hK=>?_) AllReadyH.nil)
   ·
    go_simp
    refine (zix _ _).mono ?_
    rintro e w4 ⟨rfl,rfl⟩
    refine hK.out _ _ ?_ (fun _=>?_)
    ·
     exact S0
    clear hK K
    refine tk 6 19 (tx (x.name ++ mSg x.kind)) rfl (fun W hSw=>by exact zam rfl x.name (mSg x.kind) rfl rfl (by omega) _ rfl W) S0 ?_
    simp only [Act.put,pB,pC,pD]
    refine wpAnyH_ready (rs:=[10]) (by kernel_rfl) (by simp) ?_
    refine aR rfl fun K hK=>?_
    go_simp
    have q5:=zac w3 (.cells #[.int .i64 4,.int .i64 0,tx x.text,.bool false,.int .i64 0,.int .i64 0] 161)
    have C5:Below w2.heap.size w2 (w3.alloc (.cells #[.int .i64 4,.int .i64 0,tx x.text,.bool false,.int .i64 0,.int .i64 0] 161)):=C0.alloc C0.size _
    have S5:=zab (bal (Below.refl w3.heap.size w3) (.cells #[.int .i64 4,.int .i64 0,tx x.text,.bool false,.int .i64 0,.int .i64 0] 161)) S0
    generalize w3.alloc (.cells #[.int .i64 4,.int .i64 0,tx x.text,.bool false,.int .i64 0,.int .i64 0] 161) = w5 at *
    refine hK.out _ _ ?_ (fun _=>?_)
    ·
     exact S5
    clear hK K
    refine wpAnyH_ready (rs:=[11]) (by kernel_rfl) (by simp) ?_
    refine aR rfl fun K hK=>?_
    go_simp
    refine (hlx _ _ q5 (hev.later C5)).mono ?_
    rintro e w6 ⟨rfl,b6⟩
    have C6:Below w2.heap.size w2 w6:=C5.trans (b6.mono C5.size)
    have S6:=zab b6 S5
    refine hK.out _ _ ?_ (fun _=>?_)
    ·
     exact S6
    clear hK K
    refine tk 12 25 (tx (mTx x)) rfl (fun W hSw=>by exact zam rfl (x.name ++ mSg x.kind) (qtx x.text) rfl rfl (by simp;omega) _ rfl W) S6 ?_
    simp only [Act.put,pB,pC,pD]
    generalize mTx x = t at *
    refine wpAnyH_ready (rs:=[13]) (by kernel_rfl) (by simp) ?_
    refine aR rfl fun K hK=>?_
    go_simp
    have C7:Below w2.heap.size w2 (w6.alloc (.cells #[tx t] 9)):=C6.alloc C6.size _
    have S7:=zab (bal (Below.refl w6.heap.size w6) (.cells #[tx t] 9)) S6
    have hnw:=zbk (World.cell?_alloc_new w6 #[tx t] 9 0)
    generalize w6.alloc (.cells #[tx t] 9) = w7 at *
    refine hK.out _ _ ?_ (fun _=>?_)
    ·
     exact S7
    clear hK K
    have ho7:=OwnS.later ho2 C7
    have B7:=B2.trans (C7.mono B2.size)
    refine wpAnyH_ready (rs:=[14]) (by kernel_rfl) (by simp) ?_
    refine aR rfl fun K hK=>?_
    refine zbq _ _ (some 27) 25 rfl rfl (by rfl) w.heap.size 9 i0 (tx []) 1 16 Tryz.underlying25 hi hz0 hz1 hz2 rfl (by decide) v _ _ rfl ho7 ⟨w6.heap.size,0,none⟩ 1 1 [tx t] rfl rfl hnw (fun u hu=>by cases hu with | head=>rfl | tail _ h=>cases h) (by have:=HLe.out;unfold maxLen;omega) (by have:=HLe.out;omega) B7.size ?_
    intro v' w8 ho8 hg8
    have S8:=zbl hg8 S7 hx9
    have B8:=B7.grown hg8 B7.size (fun k hk=>(World.ownsRow.lt ho7 k hk).1)
    refine hK.out _ _ ?_ (fun _=>?_)
    ·
     exact S8
    clear hK K
    refine tk 15 3 (v') rfl (fun W hSw=>by go_simp) S8 ?_
    simp only [Act.put,pB,pC,pD]
    refine wpAnyH_done (by kernel_rfl) ?_ _
    refine NoPanic.normal ?_
    go_wp2_with fail
    go_roundw
    case rel=>exact ⟨j + 1,_,by omega,by go_num,rfl,by rw [HL.out];exact OwnS.snoc ho8,B8⟩
    case measure=>simp [intOf];omega
   go_simp
   have q5:=zac w3 (.cells #[.int .i64 4,.int .i64 0,tx x.text,.bool false,.int .i64 0,.int .i64 0] 161)
   have C5:Below w2.heap.size w2 (w3.alloc (.cells #[.int .i64 4,.int .i64 0,tx x.text,.bool false,.int .i64 0,.int .i64 0] 161)):=C0.alloc C0.size _
   have S5:=zab (bal (Below.refl w3.heap.size w3) (.cells #[.int .i64 4,.int .i64 0,tx x.text,.bool false,.int .i64 0,.int .i64 0] 161)) S0
   generalize w3.alloc (.cells #[.int .i64 4,.int .i64 0,tx x.text,.bool false,.int .i64 0,.int .i64 0] 161) = w5 at *
   refine hK.out _ _ ?_ (fun _=>?_)
   ·
    exact S5
   clear hK K
   refine wpAnyH_ready (rs:=[5]) (by kernel_rfl) (by simp) ?_
   refine aR rfl fun K hK=>?_
   go_simp
   refine (zix _ _).mono ?_
   rintro e w4 ⟨rfl,rfl⟩
   refine hK.out _ _ ?_ (fun _=>?_)
   ·
    exact S5
   clear hK K
   refine tk 6 19 (tx (x.name ++ mSg x.kind)) rfl (fun W hSw=>by exact zam rfl x.name (mSg x.kind) rfl rfl (by omega) _ rfl W) S5 ?_
   simp only [Act.put,pB,pC,pD]
   refine wpAnyH_ready (rs:=[11]) (by kernel_rfl) (by simp) ?_
   refine aR rfl fun K hK=>?_
   go_simp
   refine (hlx _ _ q5 (hev.later C5)).mono ?_
   rintro e w6 ⟨rfl,b6⟩
   have C6:Below w2.heap.size w2 w6:=C5.trans (b6.mono C5.size)
   have S6:=zab b6 S5
   refine hK.out _ _ ?_ (fun _=>?_)
   ·
    exact S6
   clear hK K
   refine tk 12 25 (tx (mTx x)) rfl (fun W hSw=>by exact zam rfl (x.name ++ mSg x.kind) (qtx x.text) rfl rfl (by simp;omega) _ rfl W) S6 ?_
   simp only [Act.put,pB,pC,pD]
   generalize mTx x = t at *
   refine wpAnyH_ready (rs:=[13]) (by kernel_rfl) (by simp) ?_
   refine aR rfl fun K hK=>?_
   go_simp
   have C7:Below w2.heap.size w2 (w6.alloc (.cells #[tx t] 9)):=C6.alloc C6.size _
   have S7:=zab (bal (Below.refl w6.heap.size w6) (.cells #[tx t] 9)) S6
   have hnw:=zbk (World.cell?_alloc_new w6 #[tx t] 9 0)
   generalize w6.alloc (.cells #[tx t] 9) = w7 at *
   refine hK.out _ _ ?_ (fun _=>?_)
   ·
    exact S7
   clear hK K
   have ho7:=OwnS.later ho2 C7
   have B7:=B2.trans (C7.mono B2.size)
   refine wpAnyH_ready (rs:=[14]) (by kernel_rfl) (by simp) ?_
   refine aR rfl fun K hK=>?_
   refine zbq _ _ (some 27) 25 rfl rfl (by rfl) w.heap.size 9 i0 (tx []) 1 16 Tryz.underlying25 hi hz0 hz1 hz2 rfl (by decide) v _ _ rfl ho7 ⟨w6.heap.size,0,none⟩ 1 1 [tx t] rfl rfl hnw (fun u hu=>by cases hu with | head=>rfl | tail _ h=>cases h) (by have:=HLe.out;unfold maxLen;omega) (by have:=HLe.out;omega) B7.size ?_
   intro v' w8 ho8 hg8
   have S8:=zbl hg8 S7 hx9
   have B8:=B7.grown hg8 B7.size (fun k hk=>(World.ownsRow.lt ho7 k hk).1)
   refine hK.out _ _ ?_ (fun _=>?_)
   ·
    exact S8
   clear hK K
   refine tk 15 3 (v') rfl (fun W hSw=>by go_simp) S8 ?_
   simp only [Act.put,pB,pC,pD]
   refine wpAnyH_done (by kernel_rfl) ?_ _
   refine NoPanic.normal ?_
   go_wp2_with fail
   go_roundw
   case rel=>exact ⟨j + 1,_,by omega,by go_num,rfl,by rw [HL.out];exact OwnS.snoc ho8,B8⟩
   case measure=>simp [intOf];omega
  have hlt':¬ (j:Int) < nm:=by omega
  have e:m.take j = m:=List.take_of_length_le (by have:=HZ.out;omega)
  rw [e] at ho
  have HLe:Hid ((m.map mTx).length ≤ 1000000):=by have:=HZ.out;show _ ≤ _;simp;omega
  obtain ⟨ao,cap,rfl,hss,hcp,_⟩:=ho.slice
  have hjn:=zjq (P:=fun _=>True) (w:=wr) (a:=ao) (n:=(m.map mTx).length) (c:=cap) [44,32] ⟨ao,cap,rfl,hcp,fun hp=>by
   obtain ⟨b,off,e1,hc⟩:=hss.2 hp
   refine ⟨b,off,e1,trivial,fun q hq=>?_⟩
   rw [List.length_map] at hq
   rw [hc q hq]
   have hq':q < m.length:=by simpa using hq
   simp [List.getD,List.getElem?_eq_getElem hq']⟩ HJ.out HLe.out
  have HE:Hid (pMs m = Lib.join (m.map mTx) [44,32]):=rfl
  generalize Lib.join (m.map mTx) [44,32] = R at *
  clear e HJ hss hcp ho
  generalize (m.map mTx).length = ml at *
  go_wp2_with fail
  refine hjn.mono ?_
  rintro e w1 ⟨rfl,hb1⟩
  go_wp2_with fail
  go_ret
  exact ⟨by rw [HE.out];rfl,hb.trans (hb1.mono hb.size)⟩
def tD (r:Int):Tk:=⟨3,0,[],false,0,r⟩
def dTx (r:Int):Str:=Lib.itoa r ++ [116]
theorem prL_tD (r:Int):prL [tD r] = dTx r:=by
 rw [prL_one _ (by show Lib.itoa r ++ [116] ≠ [];simp)]
 rfl
def selT (t:Str) (os:List Mt):Str:=if t = [] ∨ 0 < os.length then t ++ ([123] ++ pMs os ++ [125]) else t
def selS (m:List Mt) (r:Int):Str:=if 0 < r then selT (ptN m).1 (ptN m).2 ++ ([91] ++ dTx r ++ [93]) else selT (ptN m).1 (ptN m).2
theorem ptN_mem {m:List Mt} {x:Mt} (h:x ∈ (ptN m).2):x ∈ m:=by
 cases m with
 | nil=>exact h
 | cons y l=>
  rw [show ptN (y :: l) = if isMet y then (y.text,l) else ([],y :: l) from rfl] at h
  split at h
  ·
   exact List.mem_cons_of_mem _ h
  exact h
theorem ptN_len (m:List Mt):(ptN m).2.length ≤ m.length:=by
 cases m with
 | nil=>exact Nat.le_refl _
 | cons y l=>
  rw [show ptN (y :: l) = if isMet y then (y.text,l) else ([],y :: l) from rfl]
  split
  ·
   simp
  exact Nat.le_refl _
theorem ptN_text (m:List Mt):(ptN m).1 = [] ∨ ∃ x ∈ m,(ptN m).1 = x.text:=by
 cases m with
 | nil=>exact Or.inl rfl
 | cons y l=>
  rw [show ptN (y :: l) = if isMet y then (y.text,l) else ([],y :: l) from rfl]
  split
  ·
   exact Or.inr ⟨y,by simp,rfl⟩
  exact Or.inl rfl
theorem dTx_len (r:Int) (h0:0 ≤ r) (h1:r ≤ 100):(dTx r).length ≤ 30:=by
 have:=Lib.itoa_length_le r (by omega) (by omega)
 unfold dTx
 simp
 omega
theorem sel9_any {P:Nat → Prop} (k p:Int) (o:Bool) (v:Int) (s:Str) (am an ak:Option Addr) (nm cm nn cn nk ck:Nat) (r:Int) (b1 b2 b3 b4:Bool) (m:List Mt) (w:World) (hm:SlP P w (.slice am nm cm) m.length (cellsM m)) (hx:∀ x ∈ m,x.name.length ≤ 100000 ∧ x.text.length ≤ 1000) (hn:nm ≤ 100000) (hl:(pMs (ptN m).2).length ≤ 1000000) (hr0:0 ≤ r) (hr1:r ≤ 100) (he:Ev w) :
  Calls Tryz.prog 80 #[.agg (exA k p o v s (.slice am nm cm) r b1 b2 b3 b4 (.slice an nn cn) (.slice ak nk ck))] w fun e w'=>e = .returned (tx (selS m r)) ∧ Below w.heap.size w w':=by
 have em:=hm.mats.1
 have hp:=fun W (hW:Below w.heap.size w W)=>zoe (SlP.later hm hW) (fun x h=>by have:=(hx x h).2;unfold Big;omega) (by omega)
 have hdl:=dTx_len r hr0 hr1
 have hL:∀ (W:World) (b:Nat),Below w.heap.size w W → W.heap[b]? = some (.cells #[.int .i64 3,.int .i64 0,tx [],.bool false,.int .i64 0,.int .i64 r] 161) → Calls Tryz.prog 145 #[.slice (some ⟨b,0,none⟩) 1 1] W fun e w'=>e = .returned (tx (dTx r)) ∧ Below W.heap.size W w':=fun W b hW h=>by
  have:=znb (tD r) b W h ⟨by show 0 ≤ 1000;omega,by show (-9223372036854775808:Int) ≤ 0;omega,by show (0:Int) ≤ _;omega,by show (-9223372036854775808:Int) ≤ r;omega,by show r ≤ _;omega⟩ (by rw [prL_tD];omega) (he.later hW)
  rwa [prL_tD] at this
 have hnl:=ptN_len m
 have htx:(ptN m).1.length ≤ 1000:=by
  rcases ptN_text m with e | ⟨x,h,e⟩
  ·
   rw [e];simp
  rw [e];exact (hx x h).2
 have hM:∀ W a n c,Below w.heap.size w W → SlP P W (.slice a n c) (ptN m).2.length (cellsM (ptN m).2) → Calls Tryz.prog 144 #[.slice a n c] W fun e w'=>e = .returned (tx (pMs (ptN m).2)) ∧ Below W.heap.size W w':=fun W a n c hW h=>pMs_any h (fun x h=>hx x (ptN_mem h)) (by have:=h.mats.1;omega) hl (he.later hW)
 have HS:Hid (selS m r = if 0 < r then selT (ptN m).1 (ptN m).2 ++ ([91] ++ dTx r ++ [93]) else selT (ptN m).1 (ptN m).2):=rfl
 generalize selS m r = RES at *
 generalize (ptN m).1 = t at *
 generalize (ptN m).2 = os at *
 clear hm hx he em hnl
 have HJ0:∃ J,Hid (pMs os = J):=⟨_,rfl⟩
 obtain ⟨J,HJ⟩:=HJ0
 rw [HJ.out] at hM hl
 have qa:=zac w (.cells (exA k p o v s (.slice am nm cm) r b1 b2 b3 b4 (.slice an nn cn) (.slice ak nk ck)) 28)
 have B1:=bal (Below.refl w.heap.size w) (.cells (exA k p o v s (.slice am nm cm) r b1 b2 b3 b4 (.slice an nn cn) (.slice ak nk ck)) 28)
 go_enter Tryz.func80,Tryz.ntmps80
 go_upto_region 1 with fail
 generalize w.alloc (.cells (exA k p o v s (.slice am nm cm) r b1 b2 b3 b4 (.slice an nn cn) (.slice ak nk ck)) 28) = w1 at *
 have x5:=(zaa qa 5).trans rfl
 go_wp2_with fail
 refine (hp _ B1).mono ?_
 rintro e w2 ⟨a,n,c,rfl,sl2,b2x⟩
 have B2:=B1.trans (b2x.mono B1.size)
 have qb:=zab b2x qa
 have hpm:=hM w2 a n c B2 (SlP.later sl2 b2x)
 have HNO:Hid (n = os.length):=sl2.mats.1
 have hnc:=sl2.mats.2.1
 clear hp hM sl2 x5
 by_cases h0:t = []
 ·
  subst h0
  have hcond:([]:Str) = [] ∨ 0 < os.length:=Or.inl rfl
  have HT:Hid (selT [] os = [] ++ ([123] ++ J ++ [125])):=by show _ = _;unfold selT;rw [if_pos hcond,HJ.out]
  clear hcond
  go_wp2_with (refine zbm rfl 9 9 _ _ rfl _ _ rfl rfl (by simp;omega) ?_)
  refine hpm.mono ?_
  rintro e w3 ⟨rfl,b3x⟩
  have B3:=B2.trans (b3x.mono B2.size)
  have qc:=zab b3x qb
  have x6:=(zaa qc 6).trans rfl
  by_cases hr:0 < r
  ·
   have HR2:=HS.out
   rw [if_pos hr,HT.out] at HR2
   have HR3:Hid _:=HR2
   clear HS HT HR2
   have q9:=zac w3 (.cells #[.int .i64 3,.int .i64 0,tx [],.bool false,.int .i64 0,.int .i64 r] 161)
   have B9:=bal B3 (.cells #[.int .i64 3,.int .i64 0,tx [],.bool false,.int .i64 0,.int .i64 r] 161)
   have hlx:=hL _ w3.heap.size B9 q9
   go_wp2_with (refine zbm rfl 9 9 _ _ rfl _ _ rfl rfl (by simp;omega) ?_)
   refine hlx.mono ?_
   rintro e wz ⟨rfl,bz⟩
   have Bz:=B9.trans (bz.mono B9.size)
   clear q9 B9 hlx
   go_wp2_with (refine zbm rfl 9 9 _ _ rfl _ _ rfl rfl (by simp;omega) ?_)
   go_ret
   exact ⟨by rw [HR3.out];simp,Bz⟩
  have HR2:=HS.out
  rw [if_neg hr,HT.out] at HR2
  have HR3:Hid _:=HR2
  clear HS HT HR2
  go_wp2_with (refine zbm rfl 9 9 _ _ rfl _ _ rfl rfl (by simp;omega) ?_)
  go_ret
  exact ⟨by rw [HR3.out];simp,B3⟩
 have t0:(t == []) = false:=beq_eq_false_iff_ne.2 h0
 by_cases hz:n = 0
 ·
  have HT:Hid (selT t os = t):=by show _ = _;unfold selT;rw [if_neg (by have:=HNO.out;rintro (e | e);exact h0 e;omega)]
  clear HNO
  subst hz
  clear hpm
  have x6:=(zaa qb 6).trans rfl
  by_cases hr:0 < r
  ·
   have HR2:=HS.out
   rw [if_pos hr,HT.out] at HR2
   have HR3:Hid _:=HR2
   clear HS HT HR2
   have q9:=zac w2 (.cells #[.int .i64 3,.int .i64 0,tx [],.bool false,.int .i64 0,.int .i64 r] 161)
   have B9:=bal B2 (.cells #[.int .i64 3,.int .i64 0,tx [],.bool false,.int .i64 0,.int .i64 r] 161)
   have hlx:=hL _ w2.heap.size B9 q9
   go_wp2_with (refine zbm rfl 9 9 _ _ rfl _ _ rfl rfl (by simp;omega) ?_)
   refine hlx.mono ?_
   rintro e wz ⟨rfl,bz⟩
   have Bz:=B9.trans (bz.mono B9.size)
   clear q9 B9 hlx
   go_wp2_with (refine zbm rfl 9 9 _ _ rfl _ _ rfl rfl (by simp;omega) ?_)
   go_ret
   exact ⟨by rw [HR3.out];simp,Bz⟩
  have HR2:=HS.out
  rw [if_neg hr,HT.out] at HR2
  have HR3:Hid _:=HR2
  clear HS HT HR2
  go_wp2_with (refine zbm rfl 9 9 _ _ rfl _ _ rfl rfl (by simp;omega) ?_)
  go_ret
  exact ⟨by rw [HR3.out];simp,B2⟩
 have hz':(0:Int) < n:=by omega
 have hcond:t = [] ∨ 0 < os.length:=Or.inr (by have:=HNO.out;omega)
 have HT:Hid (selT t os = t ++ ([123] ++ J ++ [125])):=by show _ = _;unfold selT;rw [if_pos hcond,HJ.out]
 clear hcond
 go_wp2_with (refine zbm rfl 9 9 _ _ rfl _ _ rfl rfl (by simp;omega) ?_)
 refine hpm.mono ?_
 rintro e w3 ⟨rfl,b3x⟩
 have B3:=B2.trans (b3x.mono B2.size)
 have qc:=zab b3x qb
 have x6:=(zaa qc 6).trans rfl
 by_cases hr:0 < r
 ·
  have HR2:=HS.out
  rw [if_pos hr,HT.out] at HR2
  have HR3:Hid _:=HR2
  clear HS HT HR2
  have q9:=zac w3 (.cells #[.int .i64 3,.int .i64 0,tx [],.bool false,.int .i64 0,.int .i64 r] 161)
  have B9:=bal B3 (.cells #[.int .i64 3,.int .i64 0,tx [],.bool false,.int .i64 0,.int .i64 r] 161)
  have hlx:=hL _ w3.heap.size B9 q9
  go_wp2_with (refine zbm rfl 9 9 _ _ rfl _ _ rfl rfl (by simp;omega) ?_)
  refine hlx.mono ?_
  rintro e wz ⟨rfl,bz⟩
  have Bz:=B9.trans (bz.mono B9.size)
  clear q9 B9 hlx
  go_wp2_with (refine zbm rfl 9 9 _ _ rfl _ _ rfl rfl (by simp;omega) ?_)
  go_ret
  exact ⟨by rw [HR3.out];simp,Bz⟩
 have HR2:=HS.out
 rw [if_neg hr,HT.out] at HR2
 have HR3:Hid _:=HR2
 clear HS HT HR2
 go_wp2_with (refine zbm rfl 9 9 _ _ rfl _ _ rfl rfl (by simp;omega) ?_)
 go_ret
 exact ⟨by rw [HR3.out];simp,B3⟩
theorem zdh {a:Act} {o:Oper} (x:Operand) (ho:o.op = .load 28 x) (b off:Nat) (cs:Array Value) (hx:a.eval x = .pointer (some ⟨b,off,none⟩)) (W:World) (hr:W.rangeAt b off cs.toList) (hn:cs.size = 13):(execOp a.eval o).run Tryz.prog W = .ok (.value (.agg cs)) W:=by
 unfold execOp
 simp only [ho,hx,Instr.loadAt,Instr.sureAddr,Sem.run_bind,Sem.run_pure,Result.andThen_ok,run_loadVar_mid W b off 28 cs.toList _ hr Tryz.underlying28 rfl (by rw [zae];simp [hn])]
theorem zcn {w w':World} {b o:Nat} {cs:List Value} (h:w.rangeAt b o cs) (hb:Below w.heap.size w w'):w'.rangeAt b o cs:=zfw h (Off.of hb []) (by simp)
theorem prt1 (p:Int) (o:Bool) (v:Int) (s:Str) (am an:Option Addr) (nm cm nn cn:Nat) (r:Int) (b1 b2 b3 b4:Bool) (ak:Option Addr) (nk ck:Nat) (w:World) (h0:-9223372036854775808 ≤ v) (h1:v ≤ 9223372036854775807) (he:Ev w) :
  Calls Tryz.prog 41 #[.agg (exA 1 p o v s (.slice am nm cm) r b1 b2 b3 b4 (.slice an nn cn) (.slice ak nk ck))] w fun e w'=>e = .returned (tx (Fx.fPrint (Fx.cnt o v))) ∧ Below w.heap.size w w':=by
 have qa:=zac w (.cells (exA 1 p o v s (.slice am nm cm) r b1 b2 b3 b4 (.slice an nn cn) (.slice ak nk ck)) 28)
 have B1:=bal (Below.refl w.heap.size w) (.cells (exA 1 p o v s (.slice am nm cm) r b1 b2 b3 b4 (.slice an nn cn) (.slice ak nk ck)) 28)
 have hp:=Fx.print_any o v (w.alloc (.cells (exA 1 p o v s (.slice am nm cm) r b1 b2 b3 b4 (.slice an nn cn) (.slice ak nk ck)) 28)) ⟨h0,h1⟩ (he.later B1).tab
 go_enter Tryz.func41,Tryz.ntmps41
 have x0:=(zaa qa 0).trans rfl
 have x2:=(zaa qa 2).trans rfl
 have x3:=(zaa qa 3).trans rfl
 go_wp2_with fail
 refine hp.mono ?_
 rintro e w3 ⟨rfl,b3⟩
 go_wp2_with fail
 go_ret
 exact ⟨rfl,B1.trans (b3.mono B1.size)⟩
theorem prt2 (p:Int) (o:Bool) (v:Int) (s:Str) (am an:Option Addr) (nm cm nn cn:Nat) (r:Int) (b1 b2 b3 b4:Bool) (ak:Option Addr) (nk ck:Nat) (T:Str) (w:World) (hs:∀ W,Below w.heap.size w W → Calls Tryz.prog 80 #[.agg (exA 2 p o v s (.slice am nm cm) r b1 b2 b3 b4 (.slice an nn cn) (.slice ak nk ck))] W fun e w'=>e = .returned (tx T) ∧ Below W.heap.size W w') :
  Calls Tryz.prog 41 #[.agg (exA 2 p o v s (.slice am nm cm) r b1 b2 b3 b4 (.slice an nn cn) (.slice ak nk ck))] w fun e w'=>e = .returned (tx T) ∧ Below w.heap.size w w':=by
 have qa:=zac w (.cells (exA 2 p o v s (.slice am nm cm) r b1 b2 b3 b4 (.slice an nn cn) (.slice ak nk ck)) 28)
 have B1:=bal (Below.refl w.heap.size w) (.cells (exA 2 p o v s (.slice am nm cm) r b1 b2 b3 b4 (.slice an nn cn) (.slice ak nk ck)) 28)
 go_enter Tryz.func41,Tryz.ntmps41
 have x0:=(zaa qa 0).trans rfl
 have x1:=(zaa qa 1).trans rfl
 have x2:=(zaa qa 2).trans rfl
 have x3:=(zaa qa 3).trans rfl
 have x4:=(zaa qa 4).trans rfl
 have x5:=(zaa qa 5).trans rfl
 have x6:=(zaa qa 6).trans rfl
 have x7:=(zaa qa 7).trans rfl
 have x8:=(zaa qa 8).trans rfl
 have x9:=(zaa qa 9).trans rfl
 have x10:=(zaa qa 10).trans rfl
 have x11:=(zaa qa 11).trans rfl
 have x12:=(zaa qa 12).trans rfl
 go_wp2_with fail
 refine (hs _ B1).mono ?_
 rintro e w3 ⟨rfl,b3⟩
 go_wp2_with fail
 go_ret
 exact ⟨rfl,B1.trans (b3.mono B1.size)⟩
theorem prt3 (p:Int) (o:Bool) (v:Int) (s:Str) (am an:Option Addr) (nm cm nn cn:Nat) (r:Int) (b1 b2 b3 b4:Bool) (b off ck:Nat) (ci:Array Value) (T:Str) (w:World) (hk:∀ W,Below w.heap.size w W → Calls Tryz.prog 41 #[.agg ci] W fun e w'=>e = .returned (tx T) ∧ Below W.heap.size W w') (hr:w.rangeAt b off ci.toList) (hn:ci.size = 13) (hl:s.length + T.length ≤ 3000000) :
  Calls Tryz.prog 41 #[.agg (exA 3 p o v s (.slice am nm cm) r b1 b2 b3 b4 (.slice an nn cn) (.slice (some ⟨b,off,none⟩) 1 ck))] w fun e w'=>e = .returned (tx (s ++ [40] ++ T ++ [41])) ∧ Below w.heap.size w w':=by
 have qa:=zac w (.cells (exA 3 p o v s (.slice am nm cm) r b1 b2 b3 b4 (.slice an nn cn) (.slice (some ⟨b,off,none⟩) 1 ck)) 28)
 have B1:=bal (Below.refl w.heap.size w) (.cells (exA 3 p o v s (.slice am nm cm) r b1 b2 b3 b4 (.slice an nn cn) (.slice (some ⟨b,off,none⟩) 1 ck)) 28)
 go_enter Tryz.func41,Tryz.ntmps41
 have x0:=(zaa qa 0).trans rfl
 go_upto_region 7 with fail
 clear x0
 generalize w.alloc (.cells (exA 3 p o v s (.slice am nm cm) r b1 b2 b3 b4 (.slice an nn cn) (.slice (some ⟨b,off,none⟩) 1 ck)) 28) = w1 at *
 have C0:=zag w1
 refine wp_region_noPanic ?_
 refine wp_region_held_drew (S:=fun W=>Below w1.heap.size w1 W) (by kernel_rfl) ?_ (fun _=>?_)
 ·
  exact C0
 generalize w1.drew = w2 at *
 refine tk 0 16 (.pointer (some ⟨w.heap.size,4,none⟩)) rfl (fun W hSw=>by go_simp) C0 ?_
 simp only [Act.put,pB,pC,pD]
 refine tk 1 17 (tx s) rfl (fun W hSw=>by (have hc:=(zaa (zab hSw qa) 4).trans rfl;go_simp)) C0 ?_
 simp only [Act.put,pB,pC,pD]
 refine tk 2 18 (tx (s ++ [40])) rfl (fun W hSw=>by exact zam rfl s [40] rfl rfl (by simp;omega) _ (by simp) W) C0 ?_
 simp only [Act.put,pB,pC,pD]
 refine tk 3 19 (.pointer (some ⟨w.heap.size,12,none⟩)) rfl (fun W hSw=>by go_simp) C0 ?_
 simp only [Act.put,pB,pC,pD]
 refine tk 4 20 (.slice (some ⟨b,off,none⟩) 1 ck) rfl (fun W hSw=>by (have hc:=(zaa (zab hSw qa) 12).trans rfl;go_simp)) C0 ?_
 simp only [Act.put,pB,pC,pD]
 refine tk 5 21 (.pointer (some ⟨b,off,none⟩)) rfl (fun W hSw=>by go_simp) C0 ?_
 simp only [Act.put,pB,pC,pD]
 refine tk 6 22 (.agg ci) rfl (fun W hSw=>by exact zdh _ rfl b (off) ci rfl W (zcn hr (B1.trans (hSw.mono B1.size))) hn) C0 ?_
 simp only [Act.put,pB,pC,pD]
 refine wpAnyH_ready (rs:=[7]) (by kernel_rfl) (by simp) ?_
 refine aR rfl fun K hK=>?_
 go_simp
 refine (hk _ (B1.trans (C0.mono B1.size))).mono ?_
 rintro e w3 ⟨rfl,b_w3⟩
 have C1:Below w1.heap.size w1 w3:=C0.trans (b_w3.mono C0.size)
 refine hK.out _ _ ?_ (fun _=>?_)
 ·
  exact C1
 clear hK K
 refine tk 8 24 (tx (s ++ [40] ++ T)) rfl (fun W hSw=>by exact zam rfl (s ++ [40]) T rfl rfl (by simp;omega) _ (by simp) W) C1 ?_
 simp only [Act.put,pB,pC,pD]
 refine tk 9 25 (tx (s ++ [40] ++ T ++ [41])) rfl (fun W hSw=>by exact zam rfl (s ++ [40] ++ T) [41] rfl rfl (by simp;omega) _ (by simp) W) C1 ?_
 simp only [Act.put,pB,pC,pD]
 refine tk 10 2 (tx (s ++ [40] ++ T ++ [41])) rfl (fun W hSw=>by go_simp) C1 ?_
 simp only [Act.put,pB,pC,pD]
 refine wpAnyH_done (by kernel_rfl) ?_ _
 refine NoPanic.normal ?_
 go_wp2_with fail
 go_ret
 exact ⟨by simp,B1.trans (C1.mono B1.size)⟩
theorem prt6 (p:Int) (o:Bool) (v:Int) (s:Str) (am an:Option Addr) (nm cm nn cn:Nat) (r:Int) (b1 b2 b3 b4:Bool) (b off ck:Nat) (ci:Array Value) (T:Str) (w:World) (hk:∀ W,Below w.heap.size w W → Calls Tryz.prog 41 #[.agg ci] W fun e w'=>e = .returned (tx T) ∧ Below W.heap.size W w') (hr:w.rangeAt b off ci.toList) (hn:ci.size = 13) (hl:T.length ≤ 3000000) :
  Calls Tryz.prog 41 #[.agg (exA 6 p o v s (.slice am nm cm) r b1 b2 b3 b4 (.slice an nn cn) (.slice (some ⟨b,off,none⟩) 1 ck))] w fun e w'=>e = .returned (tx ([45] ++ T)) ∧ Below w.heap.size w w':=by
 have qa:=zac w (.cells (exA 6 p o v s (.slice am nm cm) r b1 b2 b3 b4 (.slice an nn cn) (.slice (some ⟨b,off,none⟩) 1 ck)) 28)
 have B1:=bal (Below.refl w.heap.size w) (.cells (exA 6 p o v s (.slice am nm cm) r b1 b2 b3 b4 (.slice an nn cn) (.slice (some ⟨b,off,none⟩) 1 ck)) 28)
 go_enter Tryz.func41,Tryz.ntmps41
 have x0:=(zaa qa 0).trans rfl
 have x12:=(zaa qa 12).trans rfl
 go_wp2_with (refine zdf rfl _ rfl b off ci rfl (zcn hr B1) hn ?_)
 refine (hk _ B1).mono ?_
 rintro e w3 ⟨rfl,b3⟩
 go_wp2_with (refine zbm rfl 9 9 _ _ rfl _ _ rfl rfl (by simp;omega) ?_)
 go_ret
 exact ⟨by simp,B1.trans (b3.mono B1.size)⟩
theorem prt4 (p:Int) (o:Bool) (v:Int) (s:Str) (am an:Option Addr) (nm cm nn cn:Nat) (r:Int) (b1 b2 b3 b4:Bool) (b off ck:Nat) (ci:Array Value) (T G:Str) (w:World) (hk:∀ W,Below w.heap.size w W → Calls Tryz.prog 41 #[.agg ci] W fun e w'=>e = .returned (tx T) ∧ Below W.heap.size W w') (hr:w.rangeAt b off ci.toList) (hn:ci.size = 13) (hg:∀ W,Below w.heap.size w W → Calls Tryz.prog 81 #[.agg (exA 4 p o v s (.slice am nm cm) r b1 b2 b3 b4 (.slice an nn cn) (.slice (some ⟨b,off,none⟩) 1 ck))] W fun e w'=>e = .returned (tx G) ∧ Below W.heap.size W w') (hl:s.length + T.length + G.length ≤ 3000000) :
  Calls Tryz.prog 41 #[.agg (exA 4 p o v s (.slice am nm cm) r b1 b2 b3 b4 (.slice an nn cn) (.slice (some ⟨b,off,none⟩) 1 ck))] w fun e w'=>e = .returned (tx (s ++ [32] ++ G ++ [40] ++ T ++ [41])) ∧ Below w.heap.size w w':=by
 obtain ⟨T1,HT1⟩:∃ q:Str,Hid (q = s ++ [32]):=⟨s ++ [32],rfl⟩
 have lT1:T1.length ≤ List.length s + List.length [32]:=by rw [HT1.out,List.length_append];exact Nat.le_refl _
 obtain ⟨T2,HT2⟩:∃ q:Str,Hid (q = T1 ++ G):=⟨T1 ++ G,rfl⟩
 have lT2:T2.length ≤ List.length T1 + List.length G:=by rw [HT2.out,List.length_append];exact Nat.le_refl _
 obtain ⟨T3,HT3⟩:∃ q:Str,Hid (q = T2 ++ [40]):=⟨T2 ++ [40],rfl⟩
 have lT3:T3.length ≤ List.length T2 + List.length [40]:=by rw [HT3.out,List.length_append];exact Nat.le_refl _
 obtain ⟨T4,HT4⟩:∃ q:Str,Hid (q = T3 ++ T):=⟨T3 ++ T,rfl⟩
 have lT4:T4.length ≤ List.length T3 + List.length T:=by rw [HT4.out,List.length_append];exact Nat.le_refl _
 obtain ⟨T5,HT5⟩:∃ q:Str,Hid (q = T4 ++ [41]):=⟨T4 ++ [41],rfl⟩
 have lT5:T5.length ≤ List.length T4 + List.length [41]:=by rw [HT5.out,List.length_append];exact Nat.le_refl _
 simp only [List.length_cons,List.length_nil] at lT1 lT2 lT3 lT4 lT5
 have qa:=zac w (.cells (exA 4 p o v s (.slice am nm cm) r b1 b2 b3 b4 (.slice an nn cn) (.slice (some ⟨b,off,none⟩) 1 ck)) 28)
 have B1:=bal (Below.refl w.heap.size w) (.cells (exA 4 p o v s (.slice am nm cm) r b1 b2 b3 b4 (.slice an nn cn) (.slice (some ⟨b,off,none⟩) 1 ck)) 28)
 go_enter Tryz.func41,Tryz.ntmps41
 have x0:=(zaa qa 0).trans rfl
 go_upto_region 9 with fail
 clear x0
 generalize w.alloc (.cells (exA 4 p o v s (.slice am nm cm) r b1 b2 b3 b4 (.slice an nn cn) (.slice (some ⟨b,off,none⟩) 1 ck)) 28) = w1 at *
 have C0:=zag w1
 refine wp_region_noPanic ?_
 refine wp_region_held_drew (S:=fun W=>Below w1.heap.size w1 W) (by kernel_rfl) ?_ (fun _=>?_)
 ·
  exact C0
 generalize w1.drew = w2 at *
 refine tk 0 28 (.pointer (some ⟨w.heap.size,4,none⟩)) rfl (fun W hSw=>by go_simp) C0 ?_
 simp only [Act.put,pB,pC,pD]
 refine tk 1 29 (tx s) rfl (fun W hSw=>by (have hc:=(zaa (zab hSw qa) 4).trans rfl;go_simp)) C0 ?_
 simp only [Act.put,pB,pC,pD]
 refine tk 2 30 (tx T1) rfl (fun W hSw=>by exact zam rfl s [32] rfl rfl (by first | omega | (simp only [List.length_cons,List.length_nil];omega)) T1 HT1.out W) C0 ?_
 simp only [Act.put,pB,pC,pD]
 refine tk 3 31 (.agg (exA 4 p o v s (.slice am nm cm) r b1 b2 b3 b4 (.slice an nn cn) (.slice (some ⟨b,off,none⟩) 1 ck))) rfl (fun W hSw=>by exact zar 28 _ rfl w.heap.size (exA 4 p o v s (.slice am nm cm) r b1 b2 b3 b4 (.slice an nn cn) (.slice (some ⟨b,off,none⟩) 1 ck)) 28 rfl W (zab hSw qa) _ Tryz.underlying28 rfl 13 zae rfl) C0 ?_
 simp only [Act.put,pB,pC,pD]
 refine tk 7 35 (.pointer (some ⟨w.heap.size,12,none⟩)) rfl (fun W hSw=>by go_simp) C0 ?_
 simp only [Act.put,pB,pC,pD]
 refine tk 8 36 (.slice (some ⟨b,off,none⟩) 1 ck) rfl (fun W hSw=>by (have hc:=(zaa (zab hSw qa) 12).trans rfl;go_simp)) C0 ?_
 simp only [Act.put,pB,pC,pD]
 refine tk 9 37 (.pointer (some ⟨b,off,none⟩)) rfl (fun W hSw=>by go_simp) C0 ?_
 simp only [Act.put,pB,pC,pD]
 refine tk 10 38 (.agg ci) rfl (fun W hSw=>by exact zdh _ rfl b (off) ci rfl W (zcn hr (B1.trans (hSw.mono B1.size))) hn) C0 ?_
 simp only [Act.put,pB,pC,pD]
 refine wpAnyH_ready (rs:=[4]) (by kernel_rfl) (by simp) ?_
 refine aR rfl fun K hK=>?_
 go_simp
 refine (hg _ (B1.trans (C0.mono B1.size))).mono ?_
 rintro e w3 ⟨rfl,b_w3⟩
 have C1:Below w1.heap.size w1 w3:=C0.trans (b_w3.mono C0.size)
 refine hK.out _ _ ?_ (fun _=>?_)
 ·
  exact C1
 clear hK K
 refine tk 5 33 (tx T2) rfl (fun W hSw=>by exact zam rfl T1 G rfl rfl (by first | omega | (simp only [List.length_cons,List.length_nil];omega)) T2 HT2.out W) C1 ?_
 simp only [Act.put,pB,pC,pD]
 refine tk 6 34 (tx T3) rfl (fun W hSw=>by exact zam rfl T2 [40] rfl rfl (by first | omega | (simp only [List.length_cons,List.length_nil];omega)) T3 HT3.out W) C1 ?_
 simp only [Act.put,pB,pC,pD]
 refine wpAnyH_ready (rs:=[11]) (by kernel_rfl) (by simp) ?_
 refine aR rfl fun K hK=>?_
 go_simp
 refine (hk _ (B1.trans (C1.mono B1.size))).mono ?_
 rintro e w4 ⟨rfl,b_w4⟩
 have C2:Below w1.heap.size w1 w4:=C1.trans (b_w4.mono C1.size)
 refine hK.out _ _ ?_ (fun _=>?_)
 ·
  exact C2
 clear hK K
 refine tk 12 40 (tx T4) rfl (fun W hSw=>by exact zam rfl T3 T rfl rfl (by first | omega | (simp only [List.length_cons,List.length_nil];omega)) T4 HT4.out W) C2 ?_
 simp only [Act.put,pB,pC,pD]
 refine tk 13 41 (tx T5) rfl (fun W hSw=>by exact zam rfl T4 [41] rfl rfl (by first | omega | (simp only [List.length_cons,List.length_nil];omega)) T5 HT5.out W) C2 ?_
 simp only [Act.put,pB,pC,pD]
 refine tk 14 2 (tx T5) rfl (fun W hSw=>by go_simp) C2 ?_
 simp only [Act.put,pB,pC,pD]
 refine wpAnyH_done (by kernel_rfl) ?_ _
 refine NoPanic.normal ?_
 go_wp2_with fail
 go_ret
 exact ⟨by show Ending.returned (tx T5) = _;rw [HT5.out,HT4.out,HT3.out,HT2.out,HT1.out],B1.trans (C2.mono B1.size)⟩
theorem prt5 (p:Int) (o:Bool) (v:Int) (s:Str) (am an:Option Addr) (nm cm nn cn:Nat) (r:Int) (b1 b2 b3 b4:Bool) (b off ck:Nat) (ci cj:Array Value) (T U G:Str) (w:World) (hk:∀ W,Below w.heap.size w W → Calls Tryz.prog 41 #[.agg ci] W fun e w'=>e = .returned (tx T) ∧ Below W.heap.size W w') (hr:w.rangeAt b off ci.toList) (hn:ci.size = 13) (hk2:∀ W,Below w.heap.size w W → Calls Tryz.prog 41 #[.agg cj] W fun e w'=>e = .returned (tx U) ∧ Below W.heap.size W w') (hr2:w.rangeAt b (off + 13) cj.toList) (hn2:cj.size = 13) (hg:∀ W,Below w.heap.size w W → Calls Tryz.prog 81 #[.agg (exA 5 p o v s (.slice am nm cm) r b1 b2 b3 b4 (.slice an nn cn) (.slice (some ⟨b,off,none⟩) 2 ck))] W fun e w'=>e = .returned (tx G) ∧ Below W.heap.size W w') (hl:s.length + T.length + G.length + U.length ≤ 4000000) :
  Calls Tryz.prog 41 #[.agg (exA 5 p o v s (.slice am nm cm) r b1 b2 b3 b4 (.slice an nn cn) (.slice (some ⟨b,off,none⟩) 2 ck))] w fun e w'=>e = .returned (tx ([40] ++ T ++ [32] ++ s ++ [32] ++ G ++ U ++ [41])) ∧ Below w.heap.size w w':=by
 obtain ⟨T1,HT1⟩:∃ q:Str,Hid (q = [40] ++ T):=⟨[40] ++ T,rfl⟩
 have lT1:T1.length ≤ List.length [40] + List.length T:=by rw [HT1.out,List.length_append];exact Nat.le_refl _
 obtain ⟨T2,HT2⟩:∃ q:Str,Hid (q = T1 ++ [32]):=⟨T1 ++ [32],rfl⟩
 have lT2:T2.length ≤ List.length T1 + List.length [32]:=by rw [HT2.out,List.length_append];exact Nat.le_refl _
 obtain ⟨T3,HT3⟩:∃ q:Str,Hid (q = T2 ++ s):=⟨T2 ++ s,rfl⟩
 have lT3:T3.length ≤ List.length T2 + List.length s:=by rw [HT3.out,List.length_append];exact Nat.le_refl _
 obtain ⟨T4,HT4⟩:∃ q:Str,Hid (q = T3 ++ [32]):=⟨T3 ++ [32],rfl⟩
 have lT4:T4.length ≤ List.length T3 + List.length [32]:=by rw [HT4.out,List.length_append];exact Nat.le_refl _
 obtain ⟨T5,HT5⟩:∃ q:Str,Hid (q = T4 ++ G):=⟨T4 ++ G,rfl⟩
 have lT5:T5.length ≤ List.length T4 + List.length G:=by rw [HT5.out,List.length_append];exact Nat.le_refl _
 obtain ⟨T6,HT6⟩:∃ q:Str,Hid (q = T5 ++ U):=⟨T5 ++ U,rfl⟩
 have lT6:T6.length ≤ List.length T5 + List.length U:=by rw [HT6.out,List.length_append];exact Nat.le_refl _
 obtain ⟨T7,HT7⟩:∃ q:Str,Hid (q = T6 ++ [41]):=⟨T6 ++ [41],rfl⟩
 have lT7:T7.length ≤ List.length T6 + List.length [41]:=by rw [HT7.out,List.length_append];exact Nat.le_refl _
 simp only [List.length_cons,List.length_nil] at lT1 lT2 lT3 lT4 lT5 lT6 lT7
 have qa:=zac w (.cells (exA 5 p o v s (.slice am nm cm) r b1 b2 b3 b4 (.slice an nn cn) (.slice (some ⟨b,off,none⟩) 2 ck)) 28)
 have B1:=bal (Below.refl w.heap.size w) (.cells (exA 5 p o v s (.slice am nm cm) r b1 b2 b3 b4 (.slice an nn cn) (.slice (some ⟨b,off,none⟩) 2 ck)) 28)
 go_enter Tryz.func41,Tryz.ntmps41
 have x0:=(zaa qa 0).trans rfl
 go_upto_region 11 with fail
 clear x0
 generalize w.alloc (.cells (exA 5 p o v s (.slice am nm cm) r b1 b2 b3 b4 (.slice an nn cn) (.slice (some ⟨b,off,none⟩) 2 ck)) 28) = w1 at *
 have C0:=zag w1
 refine wp_region_noPanic ?_
 refine wp_region_held_drew (S:=fun W=>Below w1.heap.size w1 W) (by kernel_rfl) ?_ (fun _=>?_)
 ·
  exact C0
 generalize w1.drew = w2 at *
 refine tk 0 44 (.pointer (some ⟨w.heap.size,12,none⟩)) rfl (fun W hSw=>by go_simp) C0 ?_
 simp only [Act.put,pB,pC,pD]
 refine tk 1 45 (.slice (some ⟨b,off,none⟩) 2 ck) rfl (fun W hSw=>by (have hc:=(zaa (zab hSw qa) 12).trans rfl;go_simp)) C0 ?_
 simp only [Act.put,pB,pC,pD]
 refine tk 2 46 (.pointer (some ⟨b,off,none⟩)) rfl (fun W hSw=>by go_simp) C0 ?_
 simp only [Act.put,pB,pC,pD]
 refine tk 3 47 (.agg ci) rfl (fun W hSw=>by exact zdh _ rfl b (off) ci rfl W (zcn hr (B1.trans (hSw.mono B1.size))) hn) C0 ?_
 simp only [Act.put,pB,pC,pD]
 refine tk 7 51 (.pointer (some ⟨w.heap.size,4,none⟩)) rfl (fun W hSw=>by go_simp) C0 ?_
 simp only [Act.put,pB,pC,pD]
 refine tk 8 52 (tx s) rfl (fun W hSw=>by (have hc:=(zaa (zab hSw qa) 4).trans rfl;go_simp)) C0 ?_
 simp only [Act.put,pB,pC,pD]
 refine tk 11 55 (.agg (exA 5 p o v s (.slice am nm cm) r b1 b2 b3 b4 (.slice an nn cn) (.slice (some ⟨b,off,none⟩) 2 ck))) rfl (fun W hSw=>by exact zar 28 _ rfl w.heap.size (exA 5 p o v s (.slice am nm cm) r b1 b2 b3 b4 (.slice an nn cn) (.slice (some ⟨b,off,none⟩) 2 ck)) 28 rfl W (zab hSw qa) _ Tryz.underlying28 rfl 13 zae rfl) C0 ?_
 simp only [Act.put,pB,pC,pD]
 refine tk 14 58 (.pointer (some ⟨w.heap.size,12,none⟩)) rfl (fun W hSw=>by go_simp) C0 ?_
 simp only [Act.put,pB,pC,pD]
 refine tk 15 59 (.slice (some ⟨b,off,none⟩) 2 ck) rfl (fun W hSw=>by (have hc:=(zaa (zab hSw qa) 12).trans rfl;go_simp)) C0 ?_
 simp only [Act.put,pB,pC,pD]
 refine tk 16 60 (.pointer (some ⟨b,off + 13,none⟩)) rfl (fun W hSw=>by go_simp) C0 ?_
 simp only [Act.put,pB,pC,pD]
 refine tk 17 61 (.agg cj) rfl (fun W hSw=>by exact zdh _ rfl b (off + 13) cj rfl W (zcn hr2 (B1.trans (hSw.mono B1.size))) hn2) C0 ?_
 simp only [Act.put,pB,pC,pD]
 refine wpAnyH_ready (rs:=[4]) (by kernel_rfl) (by simp) ?_
 refine aR rfl fun K hK=>?_
 go_simp
 refine (hk _ (B1.trans (C0.mono B1.size))).mono ?_
 rintro e w3 ⟨rfl,b_w3⟩
 have C1:Below w1.heap.size w1 w3:=C0.trans (b_w3.mono C0.size)
 refine hK.out _ _ ?_ (fun _=>?_)
 ·
  exact C1
 clear hK K
 refine tk 5 49 (tx T1) rfl (fun W hSw=>by exact zam rfl [40] T rfl rfl (by first | omega | (simp only [List.length_cons,List.length_nil];omega)) T1 HT1.out W) C1 ?_
 simp only [Act.put,pB,pC,pD]
 refine tk 6 50 (tx T2) rfl (fun W hSw=>by exact zam rfl T1 [32] rfl rfl (by first | omega | (simp only [List.length_cons,List.length_nil];omega)) T2 HT2.out W) C1 ?_
 simp only [Act.put,pB,pC,pD]
 refine tk 9 53 (tx T3) rfl (fun W hSw=>by exact zam rfl T2 s rfl rfl (by first | omega | (simp only [List.length_cons,List.length_nil];omega)) T3 HT3.out W) C1 ?_
 simp only [Act.put,pB,pC,pD]
 refine tk 10 54 (tx T4) rfl (fun W hSw=>by exact zam rfl T3 [32] rfl rfl (by first | omega | (simp only [List.length_cons,List.length_nil];omega)) T4 HT4.out W) C1 ?_
 simp only [Act.put,pB,pC,pD]
 refine wpAnyH_ready (rs:=[12]) (by kernel_rfl) (by simp) ?_
 refine aR rfl fun K hK=>?_
 go_simp
 refine (hg _ (B1.trans (C1.mono B1.size))).mono ?_
 rintro e w4 ⟨rfl,b_w4⟩
 have C2:Below w1.heap.size w1 w4:=C1.trans (b_w4.mono C1.size)
 refine hK.out _ _ ?_ (fun _=>?_)
 ·
  exact C2
 clear hK K
 refine tk 13 57 (tx T5) rfl (fun W hSw=>by exact zam rfl T4 G rfl rfl (by first | omega | (simp only [List.length_cons,List.length_nil];omega)) T5 HT5.out W) C2 ?_
 simp only [Act.put,pB,pC,pD]
 refine wpAnyH_ready (rs:=[18]) (by kernel_rfl) (by simp) ?_
 refine aR rfl fun K hK=>?_
 go_simp
 refine (hk2 _ (B1.trans (C2.mono B1.size))).mono ?_
 rintro e w5 ⟨rfl,b_w5⟩
 have C3:Below w1.heap.size w1 w5:=C2.trans (b_w5.mono C2.size)
 refine hK.out _ _ ?_ (fun _=>?_)
 ·
  exact C3
 clear hK K
 refine tk 19 63 (tx T6) rfl (fun W hSw=>by exact zam rfl T5 U rfl rfl (by first | omega | (simp only [List.length_cons,List.length_nil];omega)) T6 HT6.out W) C3 ?_
 simp only [Act.put,pB,pC,pD]
 refine tk 20 64 (tx T7) rfl (fun W hSw=>by exact zam rfl T6 [41] rfl rfl (by first | omega | (simp only [List.length_cons,List.length_nil];omega)) T7 HT7.out W) C3 ?_
 simp only [Act.put,pB,pC,pD]
 refine tk 21 2 (tx T7) rfl (fun W hSw=>by go_simp) C3 ?_
 simp only [Act.put,pB,pC,pD]
 refine wpAnyH_done (by kernel_rfl) ?_ _
 refine NoPanic.normal ?_
 go_wp2_with fail
 go_ret
 exact ⟨by show Ending.returned (tx T7) = _;rw [HT7.out,HT6.out,HT5.out,HT4.out,HT3.out,HT2.out,HT1.out];simp,B1.trans (C3.mono B1.size)⟩
def prK (k:Int) (o:Bool) (v:Int) (s:Str) (m:List Mt) (r:Int) (b1 b2 b3 b4:Bool) (ns:List Str) (ts:List Str):Str:=
 if k = 1 then Fx.fPrint (Fx.cnt o v)
 else if k = 2 then selS m r
 else if k = 3 then s ++ [40] ++ ts.getD 0 [] ++ [41]
 else if k = 4 then s ++ [32] ++ gpS b1 b2 b3 b4 ns ++ [40] ++ ts.getD 0 [] ++ [41]
 else if k = 5 then [40] ++ ts.getD 0 [] ++ [32] ++ s ++ [32] ++ gpS b1 b2 b3 b4 ns ++ ts.getD 1 [] ++ [41]
 else [45] ++ ts.getD 0 []
def prG (e:Ex) (ts:List Str):Str:=prK e.k e.o e.v e.s e.m e.r e.b1 e.b2 e.b3 e.b4 e.ns ts
def pr9 (e:Ex):Str:=foldE prG e
theorem pr9_eq (k p:Int) (o:Bool) (v:Int) (s:Str) (m:List Mt) (r:Int) (b1 b2 b3 b4:Bool) (ns:List Str) (ks:List Ex):pr9 ⟨k,p,o,v,s,m,r,b1,b2,b3,b4,ns,ks⟩ = prK k o v s m r b1 b2 b3 b4 ns (ks.map pr9):=by
 show foldE prG _ = _
 rw [zdo]
 rfl
theorem two_of {l:List Ex} (h:l.length = 2):∃ x y,l = [x,y]:=by
 match l,h with
 | [x,y],_=>exact ⟨x,y,rfl⟩
theorem gp_word (b1 b2 b3 b4:Bool) (ns:List Str):(Lib.join ns [44,32]).length ≤ (gpS b1 b2 b3 b4 ns).length ∨ (b1 = false ∧ b2 = false ∧ b3 = false ∧ b4 = false):=by
 unfold gpS
 by_cases h:gw b1 b2 b3 b4 = []
 ·
  right
  revert h
  cases b1 <;> cases b2 <;> cases b3 <;> cases b4 <;> simp [gw]
 left
 rw [if_neg h]
 simp
 omega
theorem znh {p q:Bool} {ns:List Str} (h:fGrp p q ns = true) (hp:p = false) (hq:q = false):ns = []:=by
 subst hp hq
 simpa [fGrp] using h
theorem grp_len {p q:Bool} {ns:List Str} (h:fGrp p q ns = true):ns.length ≤ 1000000:=by
 unfold fGrp at h
 by_cases hc:(!p && !q) = true
 ·
  rw [if_pos hc] at h
  have:=of_decide_eq_true h
  omega
 rw [if_neg hc] at h
 simp [fewN] at h
 omega
def Vr:Ex → Prop
 | ⟨_,_,_,v,_,_,_,_,_,_,_,_,ks⟩=>(-9223372036854775808 ≤ v ∧ v ≤ 9223372036854775807) ∧ ∀ x,x ∈ ks → Vr x
theorem Vr_eq (e:Ex):Vr e ↔ (-9223372036854775808 ≤ e.v ∧ e.v ≤ 9223372036854775807) ∧ ∀ x,x ∈ e.ks → Vr x:=by
 cases e
 rw [Vr]
theorem sel_len (m:List Mt) (r:Int):(pMs (ptN m).2).length ≤ (selS m r).length ∨ (ptN m).2 = []:=by
 have h:(pMs (ptN m).2).length ≤ (selT (ptN m).1 (ptN m).2).length ∨ (ptN m).2 = []:=by
  unfold selT
  by_cases h:(ptN m).1 = [] ∨ 0 < (ptN m).2.length
  ·
   left
   rw [if_pos h]
   simp
   omega
  right
  exact List.length_eq_zero_iff.1 (by
   have:¬ 0 < (ptN m).2.length:=fun q=>h (Or.inr q)
   omega)
 rcases h with h | h
 ·
  left
  unfold selS
  split
  ·
   simp only [List.length_append]
   omega
  exact h
 exact Or.inr h
def PrtOK (P:Nat → Prop) (e:Ex):Prop:=Sm e → Vr e → sndE e = true → (pr9 e).length ≤ 1000000 → ∀ (w:World) (cs:Array Value),TrP P w e cs → Ev w → Calls Tryz.prog 41 #[.agg cs] w fun x w'=>x = .returned (tx (pr9 e)) ∧ Below w.heap.size w w'
theorem prt_ok {P:Nat → Prop} (e:Ex):PrtOK P e:=by
 refine Ex.ind (PrtOK P) ?_ e
 intro e ih hs hv hsnd hlen w cs h he
 obtain ⟨⟨v0,v1⟩,v2⟩:=(Vr_eq e).1 hv
 obtain ⟨s1,s2,s3,s4,s5,s6,s7⟩:=(zpg e).1 hs
 rw [zkr,Bool.and_eq_true,Bool.and_eq_true] at hsnd
 obtain ⟨⟨ha,hk⟩,hall⟩:=hsnd
 obtain ⟨vm,vn,ao,cap,rfl,sm,sn,hcap,hkid⟩:=h.parts
 obtain ⟨am,cm,rfl,_⟩:=id sm
 obtain ⟨an,cn,rfl,_⟩:=id sn
 obtain ⟨k,p,o,v,s,m,r,b1,b2,b3,b4,ns,ks⟩:=e
 unfold kindE at hk
 simp only at *
 rw [pr9_eq] at hlen ⊢
 have kid:∀ (i:Nat) (x:Ex),ks[i]? = some x → (pr9 x).length ≤ 1000000 → ∃ b off ci,ao = some ⟨b,off,none⟩ ∧ (∀ W,Below w.heap.size w W → Calls Tryz.prog 41 #[.agg ci] W fun e w'=>e = .returned (tx (pr9 x)) ∧ Below W.heap.size W w') ∧ w.rangeAt b (off + i * 13) ci.toList ∧ ci.size = 13:=fun i x hx hl=>by
  obtain ⟨b,off,ci,e1,kd⟩:=hkid i x hx
  have hm:=List.mem_of_getElem? hx
  exact ⟨b,off,ci,e1,fun W hW=>ih x hm (s7 x hm) (v2 x hm) (List.all_eq_true.1 hall x hm) hl W ci (TrP.later kd.t hW) (he.later hW),kd.r,kd.t.row.1⟩
 by_cases h1:k = 1
 ·
  subst k
  exact prt1 p o v s am an _ cm _ cn r b1 b2 b3 b4 ao _ cap w v0 v1 he
 by_cases h2:k = 2
 ·
  subst k
  simp [fK] at hk
  obtain ⟨⟨⟨_,m8⟩,mf⟩,hr⟩:=hk
  have hl2:prK 2 o v s m r b1 b2 b3 b4 ns (ks.map pr9) = selS m r:=rfl
  rw [hl2] at hlen ⊢
  have hr2:0 ≤ r ∧ r ≤ 100:=by simpa [fRange] using hr
  have hx:∀ x ∈ m,x.name.length ≤ 100000 ∧ x.text.length ≤ 1000:=fun x hx=>by
   have:=mf x hx
   simp [fMat,fName] at this
   omega
  have hpl:(pMs (ptN m).2).length ≤ 1000000:=by
   rcases sel_len m r with q | q
   ·
    omega
   rw [q];simp [pMs,Lib.join]
  exact prt2 p o v s am an _ cm _ cn r b1 b2 b3 b4 ao _ cap (selS m r) w (fun W hW=>sel9_any 2 p o v s am an ao _ cm _ cn _ cap r b1 b2 b3 b4 m W (SlP.later sm hW) hx (by omega) hpl hr2.1 hr2.2 (he.later hW))
 by_cases h3:k = 3
 ·
  subst k
  simp [fK] at hk
  obtain ⟨x,rfl⟩:=List.length_eq_one_iff.1 hk.1
  have hl3:prK 3 o v s m r b1 b2 b3 b4 ns ([x].map pr9) = s ++ [40] ++ pr9 x ++ [41]:=rfl
  rw [hl3] at hlen ⊢
  simp only [List.length_append,List.length_cons,List.length_nil] at hlen
  obtain ⟨b,off,ci,rfl,q1,q2,q3⟩:=kid 0 x rfl (by omega)
  exact prt3 p o v s am an _ cm _ cn r b1 b2 b3 b4 b off cap ci (pr9 x) w q1 (by simpa using q2) q3 (by omega)
 by_cases h4:k = 4
 ·
  subst k
  simp [fK] at hk
  obtain ⟨x,rfl⟩:=List.length_eq_one_iff.1 hk.1.1
  have hl4:prK 4 o v s m r b1 b2 b3 b4 ns ([x].map pr9) = s ++ [32] ++ gpS b1 b2 b3 b4 ns ++ [40] ++ pr9 x ++ [41]:=rfl
  rw [hl4] at hlen ⊢
  simp only [List.length_append,List.length_cons,List.length_nil] at hlen
  obtain ⟨b,off,ci,rfl,q1,q2,q3⟩:=kid 0 x rfl (by omega)
  have hj:(Lib.join ns [44,32]).length ≤ 1000000:=by
   rcases gp_word b1 b2 b3 b4 ns with e | ⟨e1,e2,_,_⟩
   ·
    omega
   rw [znh hk.2 e1 e2];simp [Lib.join]
  exact prt4 p o v s am an _ cm _ cn r b1 b2 b3 b4 b off cap ci (pr9 x) (gpS b1 b2 b3 b4 ns) w q1 (by simpa using q2) q3 (fun W hW=>zni 4 p o v s am an _ _ cm _ cn _ _ r b1 b2 b3 b4 ns W (SlP.later sn hW) (grp_len hk.2) hj) (by omega)
 by_cases h5:k = 5
 ·
  subst k
  simp [fK] at hk
  obtain ⟨x,y,rfl⟩:=two_of hk.1.1
  have hl5:prK 5 o v s m r b1 b2 b3 b4 ns ([x,y].map pr9) = [40] ++ pr9 x ++ [32] ++ s ++ [32] ++ gpS b1 b2 b3 b4 ns ++ pr9 y ++ [41]:=rfl
  rw [hl5] at hlen ⊢
  simp only [List.length_append,List.length_cons,List.length_nil] at hlen
  obtain ⟨b,off,ci,rfl,q1,q2,q3⟩:=kid 0 x rfl (by omega)
  obtain ⟨b',off',cj,e',r1,r2,r3⟩:=kid 1 y rfl (by omega)
  injection e' with e'
  injection e' with e1 e2
  subst e1 e2
  have hgn:=hk.2
  have hj:(Lib.join ns [44,32]).length ≤ 1000000:=by
   rcases gp_word b1 b2 b3 b4 ns with e | ⟨_,_,e1,e2⟩
   ·
    omega
   rw [znh hgn e1 e2];simp [Lib.join]
  exact prt5 p o v s am an _ cm _ cn r b1 b2 b3 b4 b off cap ci cj (pr9 x) (pr9 y) (gpS b1 b2 b3 b4 ns) w q1 (by simpa using q2) q3 r1 (by simpa using r2) r3 (fun W hW=>zni 5 p o v s am an _ _ cm _ cn _ _ r b1 b2 b3 b4 ns W (SlP.later sn hW) (grp_len hgn) hj) (by omega)
 by_cases h6:k = 6
 ·
  subst k
  simp [fK] at hk
  obtain ⟨x,rfl⟩:=List.length_eq_one_iff.1 hk
  have hl6:prK 6 o v s m r b1 b2 b3 b4 ns ([x].map pr9) = [45] ++ pr9 x:=rfl
  rw [hl6] at hlen ⊢
  simp only [List.length_append,List.length_cons,List.length_nil] at hlen
  obtain ⟨b,off,ci,rfl,q1,q2,q3⟩:=kid 0 x rfl (by omega)
  exact prt6 p o v s am an _ cm _ cn r b1 b2 b3 b4 b off cap ci (pr9 x) w q1 (by simpa using q2) q3 (by omega)
 simp [fK,h1,h2,h3,h4,h5,h6] at hk
def prE (e:Ex):Str:=if isE e then pr9 e else []
theorem zob {P:Nat → Prop} {w:World} {e:Ex} {cs:Array Value} (h:TrP P w e cs) (hs:Sm e) (hv:Vr e) (hl:(pr9 e).length ≤ 1000000) (he:Ev w):Calls Tryz.prog 16 #[.agg cs] w fun x w'=>x = .returned (tx (prE e)) ∧ Below w.heap.size w w':=by
 have hI:=fun W (hW:Below w.heap.size w W)=>isE_any (TrP.later h hW) hs
 have hP:=fun (hq:sndE e = true) W (hW:Below w.heap.size w W)=>prt_ok (P:=P) e hs hv hq hl W cs (TrP.later h hW) (he.later hW)
 have HD:Hid (isE e = (decide (sz e ≤ 700) && sndE e)):=rfl
 have HP:Hid (prE e = if isE e then pr9 e else []):=rfl
 obtain ⟨vm,vn,ao,cap,rfl,sm,sn,_,_⟩:=h.parts
 obtain ⟨am,cm,rfl,_⟩:=sm
 obtain ⟨an,cn,rfl,_⟩:=sn
 clear h hs hv hl he
 have qa:=zac w (.cells (exA e.k e.p e.o e.v e.s (.slice am e.m.length cm) e.r e.b1 e.b2 e.b3 e.b4 (.slice an e.ns.length cn) (.slice ao e.ks.length cap)) 28)
 have B1:=bal (Below.refl w.heap.size w) (.cells (exA e.k e.p e.o e.v e.s (.slice am e.m.length cm) e.r e.b1 e.b2 e.b3 e.b4 (.slice an e.ns.length cn) (.slice ao e.ks.length cap)) 28)
 go_enter Tryz.func16,Tryz.ntmps16
 go_upto_region 1 with fail
 generalize w.alloc (.cells (exA e.k e.p e.o e.v e.s (.slice am e.m.length cm) e.r e.b1 e.b2 e.b3 e.b4 (.slice an e.ns.length cn) (.slice ao e.ks.length cap)) 28) = w1 at *
 cases hq:isE e with
 | false=>
  have HR:Hid (prE e = []):=by show _ = _;rw [HP.out,hq];rfl
  simp only [hq] at hI
  clear HP HD hP hq
  go_wp2_with (refine zaj rfl 28 _ rfl w.heap.size (exA e.k e.p e.o e.v e.s (.slice am e.m.length cm) e.r e.b1 e.b2 e.b3 e.b4 (.slice an e.ns.length cn) (.slice ao e.ks.length cap)) 28 rfl qa _ Tryz.underlying28 rfl 13 zae rfl ?_)
  refine (hI _ B1).mono ?_
  rintro x w2 ⟨rfl,b2⟩
  have B2:=B1.trans (b2.mono B1.size)
  go_wp2_with fail
  go_ret
  exact ⟨by rw [HR.out];rfl,B2⟩
 | true=>
  have HR:Hid (prE e = pr9 e):=by show _ = _;rw [HP.out,hq];rfl
  have hsn:sndE e = true:=by
   have e1:=HD.out
   rw [hq] at e1
   exact (Bool.and_eq_true _ _ ▸ e1.symm).2
  have hP2:=hP hsn
  simp only [hq] at hI
  clear HP HD hP hq hsn
  go_wp2_with (refine zaj rfl 28 _ rfl w.heap.size (exA e.k e.p e.o e.v e.s (.slice am e.m.length cm) e.r e.b1 e.b2 e.b3 e.b4 (.slice an e.ns.length cn) (.slice ao e.ks.length cap)) 28 rfl qa _ Tryz.underlying28 rfl 13 zae rfl ?_)
  refine (hI _ B1).mono ?_
  rintro x w2 ⟨rfl,b2⟩
  have B2:=B1.trans (b2.mono B1.size)
  have qb:=zab b2 qa
  go_wp2_with (refine zaj (w:=w2) rfl 28 _ rfl w.heap.size (exA e.k e.p e.o e.v e.s (.slice am e.m.length cm) e.r e.b1 e.b2 e.b3 e.b4 (.slice an e.ns.length cn) (.slice ao e.ks.length cap)) 28 rfl qb _ Tryz.underlying28 rfl 13 zae rfl ?_)
  refine (hP2 _ B2).mono ?_
  rintro x w3 ⟨rfl,b3⟩
  have B3:=B2.trans (b3.mono B2.size)
  go_wp2_with fail
  go_ret
  exact ⟨by rw [HR.out];rfl,B3⟩
end Go.Proofs.YtjlaihekocjggaaGreatDoor
