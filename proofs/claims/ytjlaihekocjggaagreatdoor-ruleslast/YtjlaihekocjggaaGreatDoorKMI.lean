/- Texts that the others lean on. -/
import Derived.Test.YtjlaihekocjggaaGreatDoorKMD
import Derived.Test.YtjlaihekocjggaaGreatDoorKMB
import Derived.Test.YtjlaihekocjggaaGreatDoorKMC
set_option maxHeartbeats 16000000
namespace Go.Proofs.YtjlaihekocjggaaGreatDoor
open Go.RowKit
theorem SlP.ss {P:Nat → Prop} {w:World} {a:Option Addr} {n c:Nat} {l:List Str} (h:SlP P w (.slice a n c) l.length (l.map tx)):Ss w a n l:=by
 obtain ⟨h1,h2,h3⟩:=h.strs
 refine ⟨h1.symm,fun hp=>?_⟩
 obtain ⟨b,off,e,_⟩:=h3 0 hp
 refine ⟨b,off,e,fun j hj=>?_⟩
 obtain ⟨b',off',e',hc⟩:=h3 j hj
 rw [e] at e'
 injection e' with e'
 injection e' with q1 q2
 rw [q1,q2]
 exact hc
theorem ziq {α:Type} (f:α → Bool) (l:List α) (k:Nat) (z:α) (hk:k < l.length):(l.take (k + 1)).all f = ((l.take k).all f && f (l.getD k z)):=by
 rw [List.take_succ_eq_append_getElem hk,List.all_append]
 simp [List.getD,List.getElem?_eq_getElem hk]
theorem all_no {α:Type} (f:α → Bool) (l:List α) (k:Nat) (z:α) (hk:k < l.length) (h:f (l.getD k z) = false):l.all f = false:=by
 rw [Bool.eq_false_iff]
 intro h2
 have:=List.all_eq_true.1 h2 _ (List.getElem_mem hk)
 simp [List.getD,List.getElem?_eq_getElem hk] at h
 rw [h] at this
 cases this
theorem zfq {α:Type} (l:List α) (k:Nat) (z:α) (hk:k < l.length):l.getD k z ∈ l:=by
 simp [List.getD,List.getElem?_eq_getElem hk]
def fRange (n:Int):Bool:=decide (0 ≤ n) && decide (n ≤ 100)
def fFun (s:Str):Bool:=fName s && !isAggB s && !isModB s
theorem zll (n:Int) (w:World):Calls Tryz.prog 130 #[.int .i64 n] w fun e w'=>e = .returned (.bool (fRange n)) ∧ w = w':=by
 unfold fRange
 by_cases h1:0 ≤ n
 ·
  by_cases h2:n ≤ 100
  ·
   go_enter Tryz.func130,Tryz.ntmps130
   go_wp2_with fail
   go_ret
   exact ⟨by simp [h1,h2],rfl⟩
  go_enter Tryz.func130,Tryz.ntmps130
  go_wp2_with fail
  go_ret
  exact ⟨by simp <;> omega,rfl⟩
 go_enter Tryz.func130,Tryz.ntmps130
 go_wp2_with fail
 go_ret
 exact ⟨by simp <;> omega,rfl⟩
theorem isFun_any (s:Str) (w:World) (hs:Big s):Calls Tryz.prog 131 #[tx s] w fun e w'=>e = .returned (.bool (fFun s)) ∧ w = w':=by
 have hnm:=fun W=>zbx s W (by unfold Big at hs;omega)
 have hag:=zgc s
 have hmd:=zga s
 unfold fFun
 generalize fName s = a at *
 generalize isAggB s = b at *
 generalize isModB s = c at *
 clear hs
 cases a with
 | false=>
  go_enter Tryz.func131,Tryz.ntmps131
  go_wp2_with (go_at_call 150;refine (hnm _).mono ?_;rintro e w' ⟨rfl,rfl⟩)
  go_ret
  exact ⟨by simp,rfl⟩
 | true=>
  cases b with
  | true=>
   go_enter Tryz.func131,Tryz.ntmps131
   go_wp2_with (first | (go_at_call 150;refine (hnm _).mono ?_;rintro e w' ⟨rfl,rfl⟩) | (go_at_call 132;refine (hag _).mono ?_;rintro e w' ⟨rfl,rfl⟩))
   go_ret
   exact ⟨by simp,rfl⟩
  | false=>
   cases c <;> (
    go_enter Tryz.func131,Tryz.ntmps131
    go_wp2_with (first | (go_at_call 150;refine (hnm _).mono ?_;rintro e w' ⟨rfl,rfl⟩) | (go_at_call 132;refine (hag _).mono ?_;rintro e w' ⟨rfl,rfl⟩) | (go_at_call 208;refine (hmd _).mono ?_;rintro e w' ⟨rfl,rfl⟩))
    go_ret
    exact ⟨by simp,rfl⟩)
theorem holdS_any {a:Option Addr} {n c:Nat} {l:List Str} {w:World} (h:Ss w a n l) (hb:∀ x ∈ l,Big x) (hn:n ≤ 9223372036854775807) :
  Calls Tryz.prog 210 #[.slice a n c,.func (.func 150) #[] #[]] w fun e w'=>e = .returned (.bool (l.all fName)) ∧ w = w':=by
 have HS:Hid _:=h
 have HB:Hid (∀ x ∈ l,Big x):=hb
 clear h hb
 go_enter Tryz.func210,Tryz.ntmps210
 go_wp2_with fail
 go_loopw [9] (fun i wr=>∃ k:Nat,k ≤ n ∧ i = .int .i64 k ∧ w = wr ∧ Hid ((l.take k).all fName = true)) (fun i _=>n - (intOf i).toNat)
 case atStart=>exact ⟨0,by omega,rfl,rfl,rfl⟩
 case round=>
  obtain ⟨k,hk,rfl,rfl,HA⟩:=hrel
  by_cases hlt:k < n
  ·
   have hlt':(k:Int) < n:=by omega
   have HK:Hid (k < l.length):=by have:=HS.out.1;show _ < _;omega
   obtain ⟨b,off,ea,hcl⟩:=HS.out.2 (by omega)
   have c0:=hcl k hlt
   have HL:Hid ((l.take (k + 1)).all fName = ((l.take k).all fName && fName (l.getD k []))):=ziq fName l k [] HK.out
   have HN:Hid (fName (l.getD k []) = false → l.all fName = false):=all_no fName l k [] HK.out
   have hbk:=HB.out _ (zfq l k [] HK.out)
   clear hcl
   subst ea
   generalize l.getD k [] = x at *
   have hnm:=fun W=>zbx x W (by unfold Big at hbk;omega)
   clear hbk
   cases hx:fName x with
   | true=>
    have HR:Hid ((l.take (k + 1)).all fName = true):=by show _ = _;rw [HL.out,HA.out,hx];rfl
    rw [hx] at hnm
    clear HL HN HA hx
    go_wp2_with (go_at_call 150;refine (hnm _).mono ?_;rintro e w' ⟨rfl,rfl⟩)
    go_roundw
    case rel=>exact ⟨k + 1,by omega,by go_num,trivial,HR⟩
    case measure=>simp [intOf];omega
   | false=>
    have HR:Hid (l.all fName = false):=HN.out hx
    rw [hx] at hnm
    clear HL HN HA hx
    go_wp2_with (go_at_call 150;refine (hnm _).mono ?_;rintro e w' ⟨rfl,rfl⟩)
    go_ret
    exact ⟨by rw [HR.out];rfl,rfl⟩
  have hlt':¬ (k:Int) < n:=by omega
  have HR:Hid (l.all fName = true):=by
   have h1:=HS.out.1
   have h2:=HA.out
   rw [List.take_of_length_le (by omega)] at h2
   exact h2
  clear HA HS
  go_wp2_with fail
  go_ret
  exact ⟨by rw [HR.out];rfl,rfl⟩
def fGrp (a b:Bool) (ns:List Str):Bool:=if !a && !b then decide (ns.length = 0) else (a != b) && fewN ns && ns.all fName
theorem zlp (p q:Bool) {a:Option Addr} {n c:Nat} {l:List Str} {w:World} (h:Ss w a n l) (hb:∀ x ∈ l,Big x) (hn:n ≤ 9223372036854775807) (hc:n ≤ c) :
  Calls Tryz.prog 133 #[.bool p,.bool q,.slice a n c] w fun e w'=>e = .returned (.bool (fGrp p q l)) ∧ w = w':=by
 have hfw:=znl a n c l w (by omega) hc h
 have hhl:=holdS_any (c:=c) h hb hn
 have hl:=h.1
 unfold fGrp
 rw [hl]
 clear hl h hb
 have hz:((n:Int) == 0) = decide (n = 0):=by
  rw [Bool.eq_iff_iff]
  simp
 generalize fewN l = f at *
 generalize l.all fName = g at *
 cases p with
 | false=>
  cases q with
  | false=>
   go_enter Tryz.func133,Tryz.ntmps133
   go_wp2_with fail
   go_ret
   exact ⟨by simp,rfl⟩
  | true=>
   cases f with
   | false=>
    go_enter Tryz.func133,Tryz.ntmps133
    go_wp2_with (first | (go_at_call 209;refine hfw.mono ?_;rintro e w' ⟨rfl,rfl⟩))
    go_ret
    exact ⟨by simp,rfl⟩
   | true=>
    go_enter Tryz.func133,Tryz.ntmps133
    go_wp2_with (first | (go_at_call 209;refine hfw.mono ?_;rintro e w' ⟨rfl,rfl⟩) | (go_at_call 210;refine hhl.mono ?_;rintro e w' ⟨rfl,rfl⟩))
    go_ret
    exact ⟨by simp,rfl⟩
 | true=>
  cases q with
  | true=>
   go_enter Tryz.func133,Tryz.ntmps133
   go_wp2_with fail
   go_ret
   exact ⟨by simp,rfl⟩
  | false=>
   cases f with
   | false=>
    go_enter Tryz.func133,Tryz.ntmps133
    go_wp2_with (first | (go_at_call 209;refine hfw.mono ?_;rintro e w' ⟨rfl,rfl⟩))
    go_ret
    exact ⟨by simp,rfl⟩
   | true=>
    go_enter Tryz.func133,Tryz.ntmps133
    go_wp2_with (first | (go_at_call 209;refine hfw.mono ?_;rintro e w' ⟨rfl,rfl⟩) | (go_at_call 210;refine hhl.mono ?_;rintro e w' ⟨rfl,rfl⟩))
    go_ret
    exact ⟨by simp,rfl⟩
theorem holdM_any {P:Nat → Prop} {a:Option Addr} {n c:Nat} {l:List Mt} {w:World} (h:SlP P w (.slice a n c) l.length (cellsM l)) (hb:∀ x ∈ l,Big x.name) (hn:n ≤ 9223372036854775807) :
  Calls Tryz.prog 128 #[.slice a n c,.func (.func 129) #[] #[]] w fun e w'=>e = .returned (.bool (l.all fMat)) ∧ Below w.heap.size w w':=by
 have HS:Hid _:=h
 have HB:Hid (∀ x ∈ l,Big x.name):=hb
 have HZ:Hid (n = l.length):=h.mats.1
 clear h hb
 go_enter Tryz.func128,Tryz.ntmps128
 go_wp2_with fail
 go_loopw [9] (fun i wr=>∃ k:Nat,k ≤ n ∧ i = .int .i64 k ∧ Below w.heap.size w wr ∧ Hid ((l.take k).all fMat = true)) (fun i _=>n - (intOf i).toNat)
 case atStart=>exact ⟨0,by omega,rfl,Below.refl _ _,rfl⟩
 case round=>
  obtain ⟨k,hk,rfl,B,HA⟩:=hrel
  by_cases hlt:k < n
  ·
   have hlt':(k:Int) < n:=by omega
   have HK:Hid (k < l.length):=by have:=HZ.out;show _ < _;omega
   obtain ⟨b,off,ea,k0,k1,k2⟩:=(SlP.later HS.out B).mats.2.2 k hlt
   have HL:Hid ((l.take (k + 1)).all fMat = ((l.take k).all fMat && fMat (l.getD k ⟨[],0,[]⟩))):=ziq fMat l k _ HK.out
   have HN:Hid (fMat (l.getD k ⟨[],0,[]⟩) = false → l.all fMat = false):=all_no fMat l k _ HK.out
   have hbk:=HB.out _ (zfq l k ⟨[],0,[]⟩ HK.out)
   subst ea
   generalize l.getD k ⟨[],0,[]⟩ = x at *
   have his:=fun W=>isM_any x W hbk
   clear hbk
   have Ba:=bal B (.cells (mA mz) 57)
   have q0:=zac wr (.cells (mA mz) 57)
   cases hx:fMat x with
   | true=>
    have HR:Hid ((l.take (k + 1)).all fMat = true):=by show _ = _;rw [HL.out,HA.out,hx];rfl
    rw [hx] at his
    clear HL HN HA hx
    go_wp2_with (refine zad rfl 57 _ _ rfl wr.heap.size (mA x) rfl rfl _ 57 q0 3 zex rfl ⟨rfl,rfl⟩ ?_;intro w2 q2 o2 z2;have d0:=(zaa q2 0).trans rfl;have d1:=(zaa q2 1).trans rfl;have d2:=(zaa q2 2).trans rfl)
    have B2:=((Off.of Ba []).trans o2 (by simp;exact B.size)).below (by simp)
    refine (his _).mono ?_
    rintro e w3 ⟨rfl,b3⟩
    have B3:=B2.trans (b3.mono B2.size)
    go_wp2_with fail
    go_roundw
    case rel=>exact ⟨k + 1,by omega,by go_num,B3,HR⟩
    case measure=>simp [intOf];omega
   | false=>
    have HR:Hid (l.all fMat = false):=HN.out hx
    rw [hx] at his
    clear HL HN HA hx
    go_wp2_with (refine zad rfl 57 _ _ rfl wr.heap.size (mA x) rfl rfl _ 57 q0 3 zex rfl ⟨rfl,rfl⟩ ?_;intro w2 q2 o2 z2;have d0:=(zaa q2 0).trans rfl;have d1:=(zaa q2 1).trans rfl;have d2:=(zaa q2 2).trans rfl)
    have B2:=((Off.of Ba []).trans o2 (by simp;exact B.size)).below (by simp)
    refine (his _).mono ?_
    rintro e w3 ⟨rfl,b3⟩
    have B3:=B2.trans (b3.mono B2.size)
    go_wp2_with fail
    go_ret
    exact ⟨by rw [HR.out];rfl,B3⟩
  have hlt':¬ (k:Int) < n:=by omega
  have HR:Hid (l.all fMat = true):=by
   have h1:=HZ.out
   have h2:=HA.out
   rw [List.take_of_length_le (by omega)] at h2
   exact h2
  clear HA HS HZ
  go_wp2_with fail
  go_ret
  exact ⟨by rw [HR.out];rfl,B⟩
theorem zdv (w:World) (o:Obj):(w.alloc o).heap.size = w.heap.size + 1:=by simp
def ownA (k:Int) (o:Bool) (v:Int) (s:Str) (vm:Value) (r:Int) (b1 b2 b3 b4:Bool) (vn:Value):Array Value:=
 if k = 1 then exA 1 0 o v [] nl 0 false false false false nl nl
 else if k = 2 then exA 2 0 false 0 [] vm r false false false false nl nl
 else if k = 3 then exA 3 0 false 0 s nl 0 false false false false nl nl
 else if k = 4 then exA 4 0 false 0 s nl 0 b1 b2 false false vn nl
 else if k = 5 then exA 5 0 false 0 s nl 0 false false b3 b4 vn nl
 else exA k 0 false 0 [] nl 0 false false false false nl nl
theorem own_any (k p:Int) (o:Bool) (v:Int) (s:Str) (am an:Option Addr) (nm cm nn cn:Nat) (r:Int) (b1 b2 b3 b4:Bool) (vk:Value) (w:World) :
  Calls Tryz.prog 75 #[.agg (exA k p o v s (.slice am nm cm) r b1 b2 b3 b4 (.slice an nn cn) vk)] w fun e w'=>e = .returned (.agg (ownA k o v s (.slice am nm cm) r b1 b2 b3 b4 (.slice an nn cn))) ∧ Below w.heap.size w w':=by
 by_cases h1:k = 1
 ·
  subst k
  have HR:Hid (ownA 1 o v s (.slice am nm cm) r b1 b2 b3 b4 (.slice an nn cn) = exA 1 0 o v [] nl 0 false false false false nl nl):=by
   show _ = _
   unfold ownA
   rw [if_pos rfl]
  have q1:=zac w (.cells (exA 1 p o v s (.slice am nm cm) r b1 b2 b3 b4 (.slice an nn cn) vk) 28)
  have B1:=bal (Below.refl w.heap.size w) (.cells (exA 1 p o v s (.slice am nm cm) r b1 b2 b3 b4 (.slice an nn cn) vk) 28)
  have q1':=zab (bal (Below.refl (w.alloc (.cells (exA 1 p o v s (.slice am nm cm) r b1 b2 b3 b4 (.slice an nn cn) vk) 28)).heap.size (w.alloc (.cells (exA 1 p o v s (.slice am nm cm) r b1 b2 b3 b4 (.slice an nn cn) vk) 28))) (.cells zE 28)) q1
  have B2:=bal B1 (.cells zE 28)
  have q2:((w.alloc (.cells (exA 1 p o v s (.slice am nm cm) r b1 b2 b3 b4 (.slice an nn cn) vk) 28)).alloc (.cells zE 28)).heap[w.heap.size + 1]? = some (.cells zE 28):=by
   have h:=zac (w.alloc (.cells (exA 1 p o v s (.slice am nm cm) r b1 b2 b3 b4 (.slice an nn cn) vk) 28)) (.cells zE 28)
   rw [zdv] at h
   exact h
  have zz:=zaf w (.cells (exA 1 p o v s (.slice am nm cm) r b1 b2 b3 b4 (.slice an nn cn) vk) 28)
  go_enter Tryz.func75,Tryz.ntmps75
  skip
  have c0:=(zaa q1' 0).trans rfl
  have c1:=(zaa q1' 1).trans rfl
  have c2:=(zaa q1' 2).trans rfl
  have c3:=(zaa q1' 3).trans rfl
  have c4:=(zaa q1' 4).trans rfl
  have c5:=(zaa q1' 5).trans rfl
  have c6:=(zaa q1' 6).trans rfl
  have c7:=(zaa q1' 7).trans rfl
  have c8:=(zaa q1' 8).trans rfl
  have c9:=(zaa q1' 9).trans rfl
  have c10:=(zaa q1' 10).trans rfl
  have c11:=(zaa q1' 11).trans rfl
  have c12:=(zaa q1' 12).trans rfl
  clear q1 q1' B1
  go_wp2_with (refine zad rfl 28 _ _ rfl (w.heap.size + 1) (exA 1 0 o v [] nl 0 false false false false nl nl) rfl rfl _ 28 q2 13 zae rfl ⟨rfl,rfl⟩ ?_;intro we re oe ze)
  rw [HR.out]
  exact bodyPost_ret (zak Tryz.results75 _ _ _ 28 (exA 1 0 o v [] nl 0 false false false false nl nl) _ rfl re Tryz.underlying28 rfl 13 zae rfl) rfl ⟨rfl,((Off.of B2 []).trans oe (by simp <;> omega)).below (by simp)⟩
 have t1:(k == 1) = false:=beq_eq_false_iff_ne.2 h1
 by_cases h2:k = 2
 ·
  subst k
  have HR:Hid (ownA 2 o v s (.slice am nm cm) r b1 b2 b3 b4 (.slice an nn cn) = exA 2 0 false 0 [] (.slice am nm cm) r false false false false nl nl):=by
   show _ = _
   unfold ownA
   rfl
  have q1:=zac w (.cells (exA 2 p o v s (.slice am nm cm) r b1 b2 b3 b4 (.slice an nn cn) vk) 28)
  have B1:=bal (Below.refl w.heap.size w) (.cells (exA 2 p o v s (.slice am nm cm) r b1 b2 b3 b4 (.slice an nn cn) vk) 28)
  have q1':=zab (bal (Below.refl (w.alloc (.cells (exA 2 p o v s (.slice am nm cm) r b1 b2 b3 b4 (.slice an nn cn) vk) 28)).heap.size (w.alloc (.cells (exA 2 p o v s (.slice am nm cm) r b1 b2 b3 b4 (.slice an nn cn) vk) 28))) (.cells zE 28)) q1
  have B2:=bal B1 (.cells zE 28)
  have q2:((w.alloc (.cells (exA 2 p o v s (.slice am nm cm) r b1 b2 b3 b4 (.slice an nn cn) vk) 28)).alloc (.cells zE 28)).heap[w.heap.size + 1]? = some (.cells zE 28):=by
   have h:=zac (w.alloc (.cells (exA 2 p o v s (.slice am nm cm) r b1 b2 b3 b4 (.slice an nn cn) vk) 28)) (.cells zE 28)
   rw [zdv] at h
   exact h
  have zz:=zaf w (.cells (exA 2 p o v s (.slice am nm cm) r b1 b2 b3 b4 (.slice an nn cn) vk) 28)
  go_enter Tryz.func75,Tryz.ntmps75
  skip
  have c0:=(zaa q1' 0).trans rfl
  have c1:=(zaa q1' 1).trans rfl
  have c2:=(zaa q1' 2).trans rfl
  have c3:=(zaa q1' 3).trans rfl
  have c4:=(zaa q1' 4).trans rfl
  have c5:=(zaa q1' 5).trans rfl
  have c6:=(zaa q1' 6).trans rfl
  have c7:=(zaa q1' 7).trans rfl
  have c8:=(zaa q1' 8).trans rfl
  have c9:=(zaa q1' 9).trans rfl
  have c10:=(zaa q1' 10).trans rfl
  have c11:=(zaa q1' 11).trans rfl
  have c12:=(zaa q1' 12).trans rfl
  clear q1 q1' B1
  go_wp2_with (refine zad rfl 28 _ _ rfl (w.heap.size + 1) (exA 2 0 false 0 [] (.slice am nm cm) r false false false false nl nl) rfl rfl _ 28 q2 13 zae rfl ⟨rfl,rfl⟩ ?_;intro we re oe ze)
  rw [HR.out]
  exact bodyPost_ret (zak Tryz.results75 _ _ _ 28 (exA 2 0 false 0 [] (.slice am nm cm) r false false false false nl nl) _ rfl re Tryz.underlying28 rfl 13 zae rfl) rfl ⟨rfl,((Off.of B2 []).trans oe (by simp <;> omega)).below (by simp)⟩
 have t2:(k == 2) = false:=beq_eq_false_iff_ne.2 h2
 by_cases h3:k = 3
 ·
  subst k
  have HR:Hid (ownA 3 o v s (.slice am nm cm) r b1 b2 b3 b4 (.slice an nn cn) = exA 3 0 false 0 s nl 0 false false false false nl nl):=by
   show _ = _
   unfold ownA
   rfl
  have q1:=zac w (.cells (exA 3 p o v s (.slice am nm cm) r b1 b2 b3 b4 (.slice an nn cn) vk) 28)
  have B1:=bal (Below.refl w.heap.size w) (.cells (exA 3 p o v s (.slice am nm cm) r b1 b2 b3 b4 (.slice an nn cn) vk) 28)
  have q1':=zab (bal (Below.refl (w.alloc (.cells (exA 3 p o v s (.slice am nm cm) r b1 b2 b3 b4 (.slice an nn cn) vk) 28)).heap.size (w.alloc (.cells (exA 3 p o v s (.slice am nm cm) r b1 b2 b3 b4 (.slice an nn cn) vk) 28))) (.cells zE 28)) q1
  have B2:=bal B1 (.cells zE 28)
  have q2:((w.alloc (.cells (exA 3 p o v s (.slice am nm cm) r b1 b2 b3 b4 (.slice an nn cn) vk) 28)).alloc (.cells zE 28)).heap[w.heap.size + 1]? = some (.cells zE 28):=by
   have h:=zac (w.alloc (.cells (exA 3 p o v s (.slice am nm cm) r b1 b2 b3 b4 (.slice an nn cn) vk) 28)) (.cells zE 28)
   rw [zdv] at h
   exact h
  have zz:=zaf w (.cells (exA 3 p o v s (.slice am nm cm) r b1 b2 b3 b4 (.slice an nn cn) vk) 28)
  go_enter Tryz.func75,Tryz.ntmps75
  skip
  have c0:=(zaa q1' 0).trans rfl
  have c1:=(zaa q1' 1).trans rfl
  have c2:=(zaa q1' 2).trans rfl
  have c3:=(zaa q1' 3).trans rfl
  have c4:=(zaa q1' 4).trans rfl
  have c5:=(zaa q1' 5).trans rfl
  have c6:=(zaa q1' 6).trans rfl
  have c7:=(zaa q1' 7).trans rfl
  have c8:=(zaa q1' 8).trans rfl
  have c9:=(zaa q1' 9).trans rfl
  have c10:=(zaa q1' 10).trans rfl
  have c11:=(zaa q1' 11).trans rfl
  have c12:=(zaa q1' 12).trans rfl
  clear q1 q1' B1
  go_wp2_with (refine zad rfl 28 _ _ rfl (w.heap.size + 1) (exA 3 0 false 0 s nl 0 false false false false nl nl) rfl rfl _ 28 q2 13 zae rfl ⟨rfl,rfl⟩ ?_;intro we re oe ze)
  rw [HR.out]
  exact bodyPost_ret (zak Tryz.results75 _ _ _ 28 (exA 3 0 false 0 s nl 0 false false false false nl nl) _ rfl re Tryz.underlying28 rfl 13 zae rfl) rfl ⟨rfl,((Off.of B2 []).trans oe (by simp <;> omega)).below (by simp)⟩
 have t3:(k == 3) = false:=beq_eq_false_iff_ne.2 h3
 by_cases h4:k = 4
 ·
  subst k
  have HR:Hid (ownA 4 o v s (.slice am nm cm) r b1 b2 b3 b4 (.slice an nn cn) = exA 4 0 false 0 s nl 0 b1 b2 false false (.slice an nn cn) nl):=by
   show _ = _
   unfold ownA
   rfl
  have q1:=zac w (.cells (exA 4 p o v s (.slice am nm cm) r b1 b2 b3 b4 (.slice an nn cn) vk) 28)
  have B1:=bal (Below.refl w.heap.size w) (.cells (exA 4 p o v s (.slice am nm cm) r b1 b2 b3 b4 (.slice an nn cn) vk) 28)
  have q1':=zab (bal (Below.refl (w.alloc (.cells (exA 4 p o v s (.slice am nm cm) r b1 b2 b3 b4 (.slice an nn cn) vk) 28)).heap.size (w.alloc (.cells (exA 4 p o v s (.slice am nm cm) r b1 b2 b3 b4 (.slice an nn cn) vk) 28))) (.cells zE 28)) q1
  have B2:=bal B1 (.cells zE 28)
  have q2:((w.alloc (.cells (exA 4 p o v s (.slice am nm cm) r b1 b2 b3 b4 (.slice an nn cn) vk) 28)).alloc (.cells zE 28)).heap[w.heap.size + 1]? = some (.cells zE 28):=by
   have h:=zac (w.alloc (.cells (exA 4 p o v s (.slice am nm cm) r b1 b2 b3 b4 (.slice an nn cn) vk) 28)) (.cells zE 28)
   rw [zdv] at h
   exact h
  have zz:=zaf w (.cells (exA 4 p o v s (.slice am nm cm) r b1 b2 b3 b4 (.slice an nn cn) vk) 28)
  go_enter Tryz.func75,Tryz.ntmps75
  skip
  have c0:=(zaa q1' 0).trans rfl
  have c1:=(zaa q1' 1).trans rfl
  have c2:=(zaa q1' 2).trans rfl
  have c3:=(zaa q1' 3).trans rfl
  have c4:=(zaa q1' 4).trans rfl
  have c5:=(zaa q1' 5).trans rfl
  have c6:=(zaa q1' 6).trans rfl
  have c7:=(zaa q1' 7).trans rfl
  have c8:=(zaa q1' 8).trans rfl
  have c9:=(zaa q1' 9).trans rfl
  have c10:=(zaa q1' 10).trans rfl
  have c11:=(zaa q1' 11).trans rfl
  have c12:=(zaa q1' 12).trans rfl
  clear q1 q1' B1
  go_wp2_with (refine zad rfl 28 _ _ rfl (w.heap.size + 1) (exA 4 0 false 0 s nl 0 b1 b2 false false (.slice an nn cn) nl) rfl rfl _ 28 q2 13 zae rfl ⟨rfl,rfl⟩ ?_;intro we re oe ze)
  rw [HR.out]
  exact bodyPost_ret (zak Tryz.results75 _ _ _ 28 (exA 4 0 false 0 s nl 0 b1 b2 false false (.slice an nn cn) nl) _ rfl re Tryz.underlying28 rfl 13 zae rfl) rfl ⟨rfl,((Off.of B2 []).trans oe (by simp <;> omega)).below (by simp)⟩
 have t4:(k == 4) = false:=beq_eq_false_iff_ne.2 h4
 by_cases h5:k = 5
 ·
  subst k
  have HR:Hid (ownA 5 o v s (.slice am nm cm) r b1 b2 b3 b4 (.slice an nn cn) = exA 5 0 false 0 s nl 0 false false b3 b4 (.slice an nn cn) nl):=by
   show _ = _
   unfold ownA
   rfl
  have q1:=zac w (.cells (exA 5 p o v s (.slice am nm cm) r b1 b2 b3 b4 (.slice an nn cn) vk) 28)
  have B1:=bal (Below.refl w.heap.size w) (.cells (exA 5 p o v s (.slice am nm cm) r b1 b2 b3 b4 (.slice an nn cn) vk) 28)
  have q1':=zab (bal (Below.refl (w.alloc (.cells (exA 5 p o v s (.slice am nm cm) r b1 b2 b3 b4 (.slice an nn cn) vk) 28)).heap.size (w.alloc (.cells (exA 5 p o v s (.slice am nm cm) r b1 b2 b3 b4 (.slice an nn cn) vk) 28))) (.cells zE 28)) q1
  have B2:=bal B1 (.cells zE 28)
  have q2:((w.alloc (.cells (exA 5 p o v s (.slice am nm cm) r b1 b2 b3 b4 (.slice an nn cn) vk) 28)).alloc (.cells zE 28)).heap[w.heap.size + 1]? = some (.cells zE 28):=by
   have h:=zac (w.alloc (.cells (exA 5 p o v s (.slice am nm cm) r b1 b2 b3 b4 (.slice an nn cn) vk) 28)) (.cells zE 28)
   rw [zdv] at h
   exact h
  have zz:=zaf w (.cells (exA 5 p o v s (.slice am nm cm) r b1 b2 b3 b4 (.slice an nn cn) vk) 28)
  go_enter Tryz.func75,Tryz.ntmps75
  skip
  have c0:=(zaa q1' 0).trans rfl
  have c1:=(zaa q1' 1).trans rfl
  have c2:=(zaa q1' 2).trans rfl
  have c3:=(zaa q1' 3).trans rfl
  have c4:=(zaa q1' 4).trans rfl
  have c5:=(zaa q1' 5).trans rfl
  have c6:=(zaa q1' 6).trans rfl
  have c7:=(zaa q1' 7).trans rfl
  have c8:=(zaa q1' 8).trans rfl
  have c9:=(zaa q1' 9).trans rfl
  have c10:=(zaa q1' 10).trans rfl
  have c11:=(zaa q1' 11).trans rfl
  have c12:=(zaa q1' 12).trans rfl
  clear q1 q1' B1
  go_wp2_with (refine zad rfl 28 _ _ rfl (w.heap.size + 1) (exA 5 0 false 0 s nl 0 false false b3 b4 (.slice an nn cn) nl) rfl rfl _ 28 q2 13 zae rfl ⟨rfl,rfl⟩ ?_;intro we re oe ze)
  rw [HR.out]
  exact bodyPost_ret (zak Tryz.results75 _ _ _ 28 (exA 5 0 false 0 s nl 0 false false b3 b4 (.slice an nn cn) nl) _ rfl re Tryz.underlying28 rfl 13 zae rfl) rfl ⟨rfl,((Off.of B2 []).trans oe (by simp <;> omega)).below (by simp)⟩
 have t5:(k == 5) = false:=beq_eq_false_iff_ne.2 h5
 have HR:Hid (ownA k o v s (.slice am nm cm) r b1 b2 b3 b4 (.slice an nn cn) = exA k 0 false 0 [] nl 0 false false false false nl nl):=by
  show _ = _
  unfold ownA
  rw [if_neg h1,if_neg h2,if_neg h3,if_neg h4,if_neg h5]
 have q1:=zac w (.cells (exA k p o v s (.slice am nm cm) r b1 b2 b3 b4 (.slice an nn cn) vk) 28)
 have B1:=bal (Below.refl w.heap.size w) (.cells (exA k p o v s (.slice am nm cm) r b1 b2 b3 b4 (.slice an nn cn) vk) 28)
 have q1':=zab (bal (Below.refl (w.alloc (.cells (exA k p o v s (.slice am nm cm) r b1 b2 b3 b4 (.slice an nn cn) vk) 28)).heap.size (w.alloc (.cells (exA k p o v s (.slice am nm cm) r b1 b2 b3 b4 (.slice an nn cn) vk) 28))) (.cells zE 28)) q1
 have B2:=bal B1 (.cells zE 28)
 have q2:((w.alloc (.cells (exA k p o v s (.slice am nm cm) r b1 b2 b3 b4 (.slice an nn cn) vk) 28)).alloc (.cells zE 28)).heap[w.heap.size + 1]? = some (.cells zE 28):=by
  have h:=zac (w.alloc (.cells (exA k p o v s (.slice am nm cm) r b1 b2 b3 b4 (.slice an nn cn) vk) 28)) (.cells zE 28)
  rw [zdv] at h
  exact h
 have zz:=zaf w (.cells (exA k p o v s (.slice am nm cm) r b1 b2 b3 b4 (.slice an nn cn) vk) 28)
 go_enter Tryz.func75,Tryz.ntmps75
 skip
 have c0:=(zaa q1' 0).trans rfl
 have c1:=(zaa q1' 1).trans rfl
 have c2:=(zaa q1' 2).trans rfl
 have c3:=(zaa q1' 3).trans rfl
 have c4:=(zaa q1' 4).trans rfl
 have c5:=(zaa q1' 5).trans rfl
 have c6:=(zaa q1' 6).trans rfl
 have c7:=(zaa q1' 7).trans rfl
 have c8:=(zaa q1' 8).trans rfl
 have c9:=(zaa q1' 9).trans rfl
 have c10:=(zaa q1' 10).trans rfl
 have c11:=(zaa q1' 11).trans rfl
 have c12:=(zaa q1' 12).trans rfl
 clear q1 q1' B1
 go_wp2_with (refine zad rfl 28 _ _ rfl (w.heap.size + 1) (exA k 0 false 0 [] nl 0 false false false false nl nl) rfl rfl _ 28 q2 13 zae rfl ⟨rfl,rfl⟩ ?_;intro we re oe ze)
 rw [HR.out]
 exact bodyPost_ret (zak Tryz.results75 _ _ _ 28 (exA k 0 false 0 [] nl 0 false false false false nl nl) _ rfl re Tryz.underlying28 rfl 13 zae rfl) rfl ⟨rfl,((Off.of B2 []).trans oe (by simp <;> omega)).below (by simp)⟩
end Go.Proofs.YtjlaihekocjggaaGreatDoor
