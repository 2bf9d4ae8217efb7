/- Texts that the others lean on. -/
import Derived.LaidEql
import Derived.Stop.Asserts
import Derived.RowKitTokens
import Derived.BigQuiet
import Derived.Test.YtjlaihekocjggaaGreatDoorKMO
import Derived.Test.YtjlaihekocjggaaGreatDoorKMB
import Derived.Test.YtjlaihekocjggaaGreatDoorKMD
import Derived.Test.YtjlaihekocjggaaGreatDoorKML
set_option maxHeartbeats 16000000
namespace Go.Proofs.YtjlaihekocjggaaGreatDoor
open Go.RowKit
def knw (s:Str):Bool:=s == [114,97,116,101] || s == [105,110,99,114,101,97,115,101] || s == [100,101,108,116,97] || s == [115,117,109,95,111,118,101,114,95,116,105,109,101] || s == [97,118,103,95,111,118,101,114,95,116,105,109,101] || s == [109,105,110,95,111,118,101,114,95,116,105,109,101] || s == [109,97,120,95,111,118,101,114,95,116,105,109,101] || s == [99,111,117,110,116,95,111,118,101,114,95,116,105,109,101] || s == [108,97,115,116,95,111,118,101,114,95,116,105,109,101]
def cmpB (s:Str):Bool:=s == [62] || s == [60] || s == [62,61] || s == [60,61] || s == [61,61] || s == [33,61]
abbrev Ty:=Int × Int × Int
def takesB (k t:Int):Bool:=if k = 3 then t == 3 else if k = 4 then t == 2 else t == 1 || t == 2
def allT (t:Int) (l:List Int):Bool:=l.all (· == t)
def joinsB (b3 b4:Bool) (s:Str) (ts:List Int):Bool:=if (b3 || b4) = true then allT 2 ts else !cmpB s || !allT 1 ts
def isT (k r:Int) (ts:List Int):Int:=if k = 1 then 1 else if k = 2 then (if 0 < r then 3 else 2) else if (k = 5 ∨ k = 6) ∧ allT 1 ts = true then 1 else 2
def misP (k:Int):List Int → List Int → Option Int
 | p :: ps,t :: ts=>if takesB k t = true then misP k ps ts else some p
 | _,_=>none
def fitT (e:Ex) (ts:List Int):Ty:=match misP e.k (e.ks.map (·.p)) ts with
 | some p=>(0,p,90)
 | none=>if e.k = 5 ∧ joinsB e.b3 e.b4 e.s ts = false then (0,e.p,90) else (isT e.k e.r ts,0,0)
def badT:List Ty → Option (Int × Int)
 | []=>none
 | r :: l=>if r.2.2 = 0 then badT l else some r.2
def tyG (e:Ex) (l:List Ty):Ty:=if e.k = 3 ∧ knw e.s = false then (0,e.p,91) else match badT l with
 | some b=>(0,b.1,b.2)
 | none=>fitT e (l.map (·.1))
def tyE (e:Ex):Ty:=foldE tyG e
theorem tyE_eq (e:Ex):tyE e = tyG e (e.ks.map tyE):=by
 show foldE tyG e = _
 rw [zdo]
 rfl
theorem zec:∀ (l m:List Ty),badT l = none → badT (l ++ m) = badT m
 | [],_,_=>rfl
 | r :: l,m,h=>by
  unfold badT at h
  split at h
  ·
   rename_i h0
   rw [List.cons_append,badT,if_pos h0]
   exact zec l m h
  cases h
theorem zgm:∀ (l:List Ty) (b:Int × Int),badT l = some b → b.2 ≠ 0
 | r :: l,b,h=>by
  unfold badT at h
  split at h
  ·
   exact zgm l b h
  rename_i h0
  injection h with h
  rw [← h]
  exact h0
theorem isT_in (k r:Int) (ts:List Int):isT k r ts = 1 ∨ isT k r ts = 2 ∨ isT k r ts = 3:=by
 unfold isT
 repeat' split
 all_goals simp
theorem tyE_in (e:Ex):(((tyE e).1 = 1 ∨ (tyE e).1 = 2 ∨ (tyE e).1 = 3) ∧ (tyE e).2.1 = 0 ∧ (tyE e).2.2 = 0) ∨ ((tyE e).1 = 0 ∧ (tyE e).2.2 ≠ 0):=by
 rw [tyE_eq]
 unfold tyG
 split
 ·
  exact Or.inr ⟨rfl,by simp⟩
 split
 ·
  rename_i b hb
  exact Or.inr ⟨rfl,zgm _ _ hb⟩
 unfold fitT
 split
 ·
  exact Or.inr ⟨rfl,by simp⟩
 split
 ·
  exact Or.inr ⟨rfl,by simp⟩
 exact Or.inl ⟨isT_in _ _ _,rfl,rfl⟩
def ruE (o:Ty) (e:Ex):Int × Int:=if o.2.2 ≠ 0 then o.2 else if o.1 = 3 then (e.p,90) else (0,0)
theorem zom (s:Str) (w:World):Calls Tryz.prog 339 #[tx s] w fun e w'=>e = .returned (.bool (knw s)) ∧ w' = w:=by
 by_cases h0:s = [114,97,116,101]
 ·
  subst h0
  go_enter Tryz.func339,Tryz.ntmps339
  go_wp2_with fail
  go_ret
  exact ⟨rfl,rfl⟩
 have b0:(s == [114,97,116,101]) = false:=by rw [beq_eq_false_iff_ne];exact h0
 by_cases h1:s = [105,110,99,114,101,97,115,101]
 ·
  subst h1
  go_enter Tryz.func339,Tryz.ntmps339
  go_wp2_with fail
  go_ret
  exact ⟨rfl,rfl⟩
 have b1:(s == [105,110,99,114,101,97,115,101]) = false:=by rw [beq_eq_false_iff_ne];exact h1
 by_cases h2:s = [100,101,108,116,97]
 ·
  subst h2
  go_enter Tryz.func339,Tryz.ntmps339
  go_wp2_with fail
  go_ret
  exact ⟨rfl,rfl⟩
 have b2:(s == [100,101,108,116,97]) = false:=by rw [beq_eq_false_iff_ne];exact h2
 by_cases h3:s = [115,117,109,95,111,118,101,114,95,116,105,109,101]
 ·
  subst h3
  go_enter Tryz.func339,Tryz.ntmps339
  go_wp2_with fail
  go_ret
  exact ⟨rfl,rfl⟩
 have b3:(s == [115,117,109,95,111,118,101,114,95,116,105,109,101]) = false:=by rw [beq_eq_false_iff_ne];exact h3
 by_cases h4:s = [97,118,103,95,111,118,101,114,95,116,105,109,101]
 ·
  subst h4
  go_enter Tryz.func339,Tryz.ntmps339
  go_wp2_with fail
  go_ret
  exact ⟨rfl,rfl⟩
 have b4:(s == [97,118,103,95,111,118,101,114,95,116,105,109,101]) = false:=by rw [beq_eq_false_iff_ne];exact h4
 by_cases h5:s = [109,105,110,95,111,118,101,114,95,116,105,109,101]
 ·
  subst h5
  go_enter Tryz.func339,Tryz.ntmps339
  go_wp2_with fail
  go_ret
  exact ⟨rfl,rfl⟩
 have b5:(s == [109,105,110,95,111,118,101,114,95,116,105,109,101]) = false:=by rw [beq_eq_false_iff_ne];exact h5
 by_cases h6:s = [109,97,120,95,111,118,101,114,95,116,105,109,101]
 ·
  subst h6
  go_enter Tryz.func339,Tryz.ntmps339
  go_wp2_with fail
  go_ret
  exact ⟨rfl,rfl⟩
 have b6:(s == [109,97,120,95,111,118,101,114,95,116,105,109,101]) = false:=by rw [beq_eq_false_iff_ne];exact h6
 by_cases h7:s = [99,111,117,110,116,95,111,118,101,114,95,116,105,109,101]
 ·
  subst h7
  go_enter Tryz.func339,Tryz.ntmps339
  go_wp2_with fail
  go_ret
  exact ⟨rfl,rfl⟩
 have b7:(s == [99,111,117,110,116,95,111,118,101,114,95,116,105,109,101]) = false:=by rw [beq_eq_false_iff_ne];exact h7
 by_cases h8:s = [108,97,115,116,95,111,118,101,114,95,116,105,109,101]
 ·
  subst h8
  go_enter Tryz.func339,Tryz.ntmps339
  go_wp2_with fail
  go_ret
  exact ⟨rfl,rfl⟩
 have b8:(s == [108,97,115,116,95,111,118,101,114,95,116,105,109,101]) = false:=by rw [beq_eq_false_iff_ne];exact h8
 rw [show knw s = false by unfold knw;simp only [b0,b1,b2,b3,b4,b5,b6,b7,b8];rfl]
 clear h0 h1 h2 h3 h4 h5 h6 h7 h8
 go_enter Tryz.func339,Tryz.ntmps339
 go_wp2_with fail
 go_ret
 exact ⟨rfl,rfl⟩
theorem cmp9_any (s:Str) (w:World):Calls Tryz.prog 408 #[tx s] w fun e w'=>e = .returned (.bool (cmpB s)) ∧ w' = w:=by
 by_cases h0:s = [62]
 ·
  subst h0
  go_enter Tryz.func408,Tryz.ntmps408
  go_wp2_with fail
  go_ret
  exact ⟨rfl,rfl⟩
 have b0:(s == [62]) = false:=by rw [beq_eq_false_iff_ne];exact h0
 by_cases h1:s = [60]
 ·
  subst h1
  go_enter Tryz.func408,Tryz.ntmps408
  go_wp2_with fail
  go_ret
  exact ⟨rfl,rfl⟩
 have b1:(s == [60]) = false:=by rw [beq_eq_false_iff_ne];exact h1
 by_cases h2:s = [62,61]
 ·
  subst h2
  go_enter Tryz.func408,Tryz.ntmps408
  go_wp2_with fail
  go_ret
  exact ⟨rfl,rfl⟩
 have b2:(s == [62,61]) = false:=by rw [beq_eq_false_iff_ne];exact h2
 by_cases h3:s = [60,61]
 ·
  subst h3
  go_enter Tryz.func408,Tryz.ntmps408
  go_wp2_with fail
  go_ret
  exact ⟨rfl,rfl⟩
 have b3:(s == [60,61]) = false:=by rw [beq_eq_false_iff_ne];exact h3
 by_cases h4:s = [61,61]
 ·
  subst h4
  go_enter Tryz.func408,Tryz.ntmps408
  go_wp2_with fail
  go_ret
  exact ⟨rfl,rfl⟩
 have b4:(s == [61,61]) = false:=by rw [beq_eq_false_iff_ne];exact h4
 by_cases h5:s = [33,61]
 ·
  subst h5
  go_enter Tryz.func408,Tryz.ntmps408
  go_wp2_with fail
  go_ret
  exact ⟨rfl,rfl⟩
 have b5:(s == [33,61]) = false:=by rw [beq_eq_false_iff_ne];exact h5
 rw [show cmpB s = false by unfold cmpB;simp only [b0,b1,b2,b3,b4,b5];rfl]
 clear h0 h1 h2 h3 h4 h5
 go_enter Tryz.func408,Tryz.ntmps408
 go_wp2_with fail
 go_ret
 exact ⟨rfl,rfl⟩
abbrev ntA (k p:Int) (o:Bool) (v:Int) (s:Str) (vm:Value) (r:Int) (b1 b2 b3 b4:Bool) (vn vk vt:Value):Array Value:=#[.int .i64 k,.int .i64 p,.bool o,.int .i64 v,tx s,vm,.int .i64 r,.bool b1,.bool b2,.bool b3,.bool b4,vn,vk,vt]
abbrev iv (t:Int):Value:=.int .i64 t
theorem SlP.ints {P:Nat → Prop} {w:World} {a:Option Addr} {n c:Nat} {l:List Int} (h:SlP P w (.slice a n c) l.length (l.map iv)):n = l.length ∧ n ≤ c ∧ ∀ i,i < n → ∃ b off,a = some ⟨b,off,none⟩ ∧ w.cell? ⟨b,off + i,none⟩ = some (iv (l.getD i 0)):=by
 obtain ⟨ao,cap,e,hc,h4⟩:=h
 injection e with e1 e2 e3
 subst e1 e3
 refine ⟨e2,by omega,fun i hi=>?_⟩
 obtain ⟨b,off,e1,_,hcs⟩:=h4 (by omega)
 refine ⟨b,off,e1,?_⟩
 have hl:i < l.length:=by omega
 rw [hcs i (by simpa using hl)]
 simp [List.getD,List.getElem?_eq_getElem hl]
theorem zdx (cs:Array Value) (k p:Int) (o:Bool) (v:Int) (s:Str) (vm:Value) (r:Int) (b1 b2 b3 b4:Bool) (vn vk:Value) (h:cs = exA k p o v s vm r b1 b2 b3 b4 vn vk) (y:Int) (w:World) :
  Calls Tryz.prog 340 #[.agg cs,.int .i64 y] w fun e w'=>e = .returned (.iface 290 (.agg #[.int .i64 p,.int .i64 y])) ∧ Below w.heap.size w w':=by
 subst h
 have q:=zac w (.cells (exA k p o v s vm r b1 b2 b3 b4 vn vk) 28)
 have B:=bal (Below.refl w.heap.size w) (.cells (exA k p o v s vm r b1 b2 b3 b4 vn vk) 28)
 go_enter Tryz.func340,Tryz.ntmps340
 go_upto_region 1 with fail
 generalize w.alloc (.cells (exA k p o v s vm r b1 b2 b3 b4 vn vk) 28) = w1 at *
 have x1:=(zaa q 1).trans rfl
 go_wp2_with fail
 go_ret
 exact ⟨rfl,B⟩
section
variable (k p:Int) (o:Bool) (v:Int) (s:Str) (vm:Value) (r:Int) (b1 b2 b3 b4:Bool) (vn vk vt:Value)
theorem takes_any (y:Int) (w:World):Calls Tryz.prog 379 #[.agg (ntA k p o v s vm r b1 b2 b3 b4 vn vk vt),.int .i64 y] w fun e w'=>e = .returned (.bool (takesB k y)) ∧ Below w.heap.size w w':=by
 have q:=zac w (.cells (ntA k p o v s vm r b1 b2 b3 b4 vn vk vt) 332)
 have B:=bal (Below.refl w.heap.size w) (.cells (ntA k p o v s vm r b1 b2 b3 b4 vn vk vt) 332)
 by_cases h3:k = 3
 ·
  subst h3
  go_enter Tryz.func379,Tryz.ntmps379
  go_upto_region 1 with fail
  generalize w.alloc (.cells (ntA 3 p o v s vm r b1 b2 b3 b4 vn vk vt) 332) = w1 at *
  have x1:=(zaa q 0).trans rfl
  go_wp2_with fail
  go_ret
  exact ⟨rfl,B⟩
 by_cases h4:k = 4
 ·
  subst h4
  go_enter Tryz.func379,Tryz.ntmps379
  go_upto_region 1 with fail
  generalize w.alloc (.cells (ntA 4 p o v s vm r b1 b2 b3 b4 vn vk vt) 332) = w1 at *
  have x1:=(zaa q 0).trans rfl
  go_wp2_with fail
  go_ret
  exact ⟨rfl,B⟩
 rw [show takesB k y = (y == 1 || y == 2) by unfold takesB;rw [if_neg h3,if_neg h4]]
 by_cases y1:y = 1
 ·
  subst y1
  go_enter Tryz.func379,Tryz.ntmps379
  go_upto_region 1 with fail
  generalize w.alloc (.cells (ntA k p o v s vm r b1 b2 b3 b4 vn vk vt) 332) = w1 at *
  have x1:=(zaa q 0).trans rfl
  go_wp2_with fail
  go_ret
  exact ⟨rfl,B⟩
 by_cases y2:y = 2
 ·
  subst y2
  go_enter Tryz.func379,Tryz.ntmps379
  go_upto_region 1 with fail
  generalize w.alloc (.cells (ntA k p o v s vm r b1 b2 b3 b4 vn vk vt) 332) = w1 at *
  have x1:=(zaa q 0).trans rfl
  go_wp2_with fail
  go_ret
  exact ⟨rfl,B⟩
 have e1:(y == 1) = false:=beq_eq_false_iff_ne.2 y1
 have e2:(y == 2) = false:=beq_eq_false_iff_ne.2 y2
 rw [e1,e2]
 go_enter Tryz.func379,Tryz.ntmps379
 go_upto_region 1 with fail
 generalize w.alloc (.cells (ntA k p o v s vm r b1 b2 b3 b4 vn vk vt) 332) = w1 at *
 have x1:=(zaa q 0).trans rfl
 go_wp2_with fail
 go_ret
 exact ⟨rfl,B⟩
theorem allT_step (y:Int) (l:List Int) (j:Nat) (h:j < l.length):allT y (l.take (j + 1)) = (allT y (l.take j) && (l.getD j 0 == y)):=by
 unfold allT
 rw [List.take_add_one,List.all_append,List.getElem?_eq_getElem h]
 simp [List.getD,List.getElem?_eq_getElem h]
theorem allT_no (y:Int) (l:List Int) (j:Nat) (h:j < l.length) (hn:(l.getD j 0 == y) = false):allT y l = false:=by
 unfold allT
 rw [List.all_eq_false]
 refine ⟨l[j],List.getElem_mem h,?_⟩
 simp [List.getD,List.getElem?_eq_getElem h] at hn
 simpa using hn
theorem zhp {P:Nat → Prop} (at':Option Addr) (nt ct:Nat) (ts:List Int) (y:Int) (w:World) (hts:SlP P w (.slice at' nt ct) ts.length (ts.map iv)) (hn:nt ≤ 9223372036854775807) :
  Calls Tryz.prog 381 #[.agg (ntA k p o v s vm r b1 b2 b3 b4 vn vk (.slice at' nt ct)),.int .i64 y] w fun e w'=>e = .returned (.bool (allT y ts)) ∧ Below w.heap.size w w':=by
 have q:=zac w (.cells (ntA k p o v s vm r b1 b2 b3 b4 vn vk (.slice at' nt ct)) 332)
 have B:=bal (Below.refl w.heap.size w) (.cells (ntA k p o v s vm r b1 b2 b3 b4 vn vk (.slice at' nt ct)) 332)
 have T:=hts.later (bal (Below.refl w.heap.size w) (.cells (ntA k p o v s vm r b1 b2 b3 b4 vn vk (.slice at' nt ct)) 332))
 obtain ⟨hnl,hnc,hcell⟩:=SlP.ints T
 have HN:Hid (nt = ts.length):=hnl
 have HC:Hid _:=hcell
 clear hnl hcell T hts
 go_enter Tryz.func381,Tryz.ntmps381
 go_upto_region 1 with fail
 generalize w.alloc (.cells (ntA k p o v s vm r b1 b2 b3 b4 vn vk (.slice at' nt ct)) 332) = w1 at *
 have x1:=(zaa q 13).trans rfl
 go_wp2_with fail
 go_loopw [10] (fun i wr=>∃ j:Nat,j ≤ nt ∧ i = .int .i64 j ∧ wr = w1 ∧ Hid (allT y (ts.take j) = true)) (fun i _=>nt - (intOf i).toNat)
 case atStart=>exact ⟨0,by omega,rfl,rfl,rfl⟩
 case round=>
  obtain ⟨j,hj,rfl,rfl,HA⟩:=hrel
  by_cases hlt:j < nt
  ·
   have hlt':(j:Int) < nt:=by omega
   have hjl:Hid (j < ts.length):=by have:=HN.out;show _ < _;omega
   obtain ⟨b,off,rfl,c0⟩:=HC.out j hlt
   have HS:Hid (allT y (ts.take (j + 1)) = (allT y (ts.take j) && (ts.getD j 0 == y))):=allT_step y ts j hjl.out
   have HV:Hid ((ts.getD j 0 == y) = false → allT y ts = false):=allT_no y ts j hjl.out
   generalize ts.getD j 0 = u at *
   cases hq:(u == y) with
   | true=>
    have hq2:(u != y) = false:=by rw [bne,hq];rfl
    have HR:Hid (allT y (ts.take (j + 1)) = true):=by show _ = _;rw [HS.out,HA.out,hq];rfl
    clear HS HV HA
    go_wp2_with fail
    go_roundw
    case rel=>exact ⟨j + 1,by omega,by go_num,by trivial,HR⟩
    case measure=>simp [intOf];omega
   | false=>
    have hq2:(u != y) = true:=by rw [bne,hq];rfl
    have HR:Hid (allT y ts = false):=HV.out hq
    clear HS HV HA
    go_wp2_with fail
    go_ret
    exact ⟨by rw [HR.out];rfl,B⟩
  have hlt':¬ (j:Int) < nt:=by omega
  have HR:Hid (allT y ts = true):=by
   have h1:=HN.out
   have h2:=HA.out
   rw [List.take_of_length_le (by omega)] at h2
   exact h2
  clear HA
  go_wp2_with fail
  go_ret
  exact ⟨by rw [HR.out];rfl,B⟩
end
theorem zco:(Tryz.prog.info? 332).map (·.size) = some 14:=by kernel_rfl
section
variable (k p:Int) (o:Bool) (v:Int) (s:Str) (vm:Value) (r:Int) (b1 b2 b3 b4:Bool) (vn vk:Value)
theorem joins_any {P:Nat → Prop} (at':Option Addr) (nt ct:Nat) (ts:List Int) (w:World) (hts:SlP P w (.slice at' nt ct) ts.length (ts.map iv)) (hn:nt ≤ 9223372036854775807) :
  Calls Tryz.prog 380 #[.agg (ntA k p o v s vm r b1 b2 b3 b4 vn vk (.slice at' nt ct))] w fun e w'=>e = .returned (.bool (joinsB b3 b4 s ts)) ∧ Below w.heap.size w w':=by
 have q:=zac w (.cells (ntA k p o v s vm r b1 b2 b3 b4 vn vk (.slice at' nt ct)) 332)
 have B:=bal (Below.refl w.heap.size w) (.cells (ntA k p o v s vm r b1 b2 b3 b4 vn vk (.slice at' nt ct)) 332)
 have hA:=fun (y:Int) W (hW:Below w.heap.size w W)=>zhp k p o v s vm r b1 b2 b3 b4 vn vk at' nt ct ts y W (hts.later hW) hn
 have hC:=fun W=>cmp9_any s W
 clear hts
 cases b3 with
 | true=>
  rw [show joinsB true b4 s ts = allT 2 ts from rfl]
  go_enter Tryz.func380,Tryz.ntmps380
  go_upto_region 1 with fail
  generalize w.alloc (.cells (ntA k p o v s vm r b1 b2 true b4 vn vk (.slice at' nt ct)) 332) = w1 at *
  have x9:=(zaa q 9).trans rfl
  have x10:=(zaa q 10).trans rfl
  have x13:=(zaa q 13).trans rfl
  go_wp2_with (refine zaj rfl 332 _ rfl w.heap.size _ 332 rfl q _ Tryz.underlying332 rfl 14 zco rfl ?_)
  refine (hA 2 _ B).mono ?_
  rintro e w2 ⟨rfl,b2⟩
  go_wp2_with fail
  go_ret
  exact ⟨rfl,B.trans (b2.mono B.size)⟩
 | false=>
  cases b4 with
  | true=>
   rw [show joinsB false true s ts = allT 2 ts from rfl]
   go_enter Tryz.func380,Tryz.ntmps380
   go_upto_region 1 with fail
   generalize w.alloc (.cells (ntA k p o v s vm r b1 b2 false true vn vk (.slice at' nt ct)) 332) = w1 at *
   have x9:=(zaa q 9).trans rfl
   have x10:=(zaa q 10).trans rfl
   have x13:=(zaa q 13).trans rfl
   go_wp2_with (refine zaj rfl 332 _ rfl w.heap.size _ 332 rfl q _ Tryz.underlying332 rfl 14 zco rfl ?_)
   refine (hA 2 _ B).mono ?_
   rintro e w2 ⟨rfl,b2⟩
   go_wp2_with fail
   go_ret
   exact ⟨rfl,B.trans (b2.mono B.size)⟩
  | false=>
   rw [show joinsB false false s ts = (!cmpB s || !allT 1 ts) from rfl]
   cases hc:cmpB s with
   | false=>
    simp only [hc] at hC
    clear hA
    go_enter Tryz.func380,Tryz.ntmps380
    go_upto_region 1 with fail
    generalize w.alloc (.cells (ntA k p o v s vm r b1 b2 false false vn vk (.slice at' nt ct)) 332) = w1 at *
    have x4:=(zaa q 4).trans rfl
    have x9:=(zaa q 9).trans rfl
    have x10:=(zaa q 10).trans rfl
    go_wp2_with fail
    refine (hC _).mono ?_
    rintro e w2 ⟨rfl,rfl⟩
    go_wp2_with fail
    go_ret
    exact ⟨rfl,B⟩
   | true=>
    simp only [hc] at hC
    have hA1:=hA 1
    clear hA
    generalize allT 1 ts = z at *
    go_enter Tryz.func380,Tryz.ntmps380
    go_upto_region 1 with fail
    generalize w.alloc (.cells (ntA k p o v s vm r b1 b2 false false vn vk (.slice at' nt ct)) 332) = w1 at *
    have x0:=(zaa q 0).trans rfl
    have x1:=(zaa q 1).trans rfl
    have x2:=(zaa q 2).trans rfl
    have x3:=(zaa q 3).trans rfl
    have x4:=(zaa q 4).trans rfl
    have x5:=(zaa q 5).trans rfl
    have x6:=(zaa q 6).trans rfl
    have x7:=(zaa q 7).trans rfl
    have x8:=(zaa q 8).trans rfl
    have x9:=(zaa q 9).trans rfl
    have x10:=(zaa q 10).trans rfl
    have x11:=(zaa q 11).trans rfl
    have x12:=(zaa q 12).trans rfl
    have x13:=(zaa q 13).trans rfl
    go_wp2_with fail
    refine (hC _).mono ?_
    rintro e w2 ⟨rfl,rfl⟩
    go_wp2_with fail
    refine (hA1 _ B).mono ?_
    rintro e w2 ⟨rfl,b2⟩
    go_wp2_with fail
    go_ret
    exact ⟨rfl,B.trans (b2.mono B.size)⟩
theorem isN_any {P:Nat → Prop} (at':Option Addr) (nt ct:Nat) (ts:List Int) (w:World) (hts:SlP P w (.slice at' nt ct) ts.length (ts.map iv)) (hn:nt ≤ 9223372036854775807) :
  Calls Tryz.prog 343 #[.agg (ntA k p o v s vm r b1 b2 b3 b4 vn vk (.slice at' nt ct))] w fun e w'=>e = .returned (.int .i64 (isT k r ts)) ∧ Below w.heap.size w w':=by
 have q:=zac w (.cells (ntA k p o v s vm r b1 b2 b3 b4 vn vk (.slice at' nt ct)) 332)
 have B:=bal (Below.refl w.heap.size w) (.cells (ntA k p o v s vm r b1 b2 b3 b4 vn vk (.slice at' nt ct)) 332)
 have hA:=fun W (hW:Below w.heap.size w W)=>zhp k p o v s vm r b1 b2 b3 b4 vn vk at' nt ct ts 1 W (hts.later hW) hn
 clear hts
 by_cases h1:k = 1
 ·
  subst h1
  rw [show isT 1 r ts = 1 from rfl]
  go_enter Tryz.func343,Tryz.ntmps343
  go_upto_region 1 with fail
  generalize w.alloc (.cells (ntA 1 p o v s vm r b1 b2 b3 b4 vn vk (.slice at' nt ct)) 332) = w1 at *
  have x0:=(zaa q 0).trans rfl
  have x6:=(zaa q 6).trans rfl
  go_wp2_with fail
  go_ret
  exact ⟨rfl,B⟩
 by_cases h2:k = 2
 ·
  subst h2
  by_cases hr:0 < r
  ·
   rw [show isT 2 r ts = 3 by unfold isT;rw [if_neg (by decide),if_pos rfl,if_pos hr]]
   go_enter Tryz.func343,Tryz.ntmps343
   go_upto_region 1 with fail
   generalize w.alloc (.cells (ntA 2 p o v s vm r b1 b2 b3 b4 vn vk (.slice at' nt ct)) 332) = w1 at *
   have x0:=(zaa q 0).trans rfl
   have x6:=(zaa q 6).trans rfl
   go_wp2_with fail
   go_ret
   exact ⟨rfl,B⟩
  rw [show isT 2 r ts = 2 by unfold isT;rw [if_neg (by decide),if_pos rfl,if_neg hr]]
  go_enter Tryz.func343,Tryz.ntmps343
  go_upto_region 1 with fail
  generalize w.alloc (.cells (ntA 2 p o v s vm r b1 b2 b3 b4 vn vk (.slice at' nt ct)) 332) = w1 at *
  have x0:=(zaa q 0).trans rfl
  have x6:=(zaa q 6).trans rfl
  go_wp2_with fail
  go_ret
  exact ⟨rfl,B⟩
 by_cases h56:k = 5 ∨ k = 6
 ·
  have e0:isT k r ts = if allT 1 ts = true then 1 else 2:=by
   unfold isT
   rw [if_neg h1,if_neg h2]
   simp only [h56,true_and]
  rw [e0]
  generalize allT 1 ts = z at *
  rcases h56 with rfl | rfl
  all_goals
   cases z with
   | true=>
    go_enter Tryz.func343,Tryz.ntmps343
    go_upto_region 1 with fail
    generalize w.alloc (.cells (ntA _ p o v s vm r b1 b2 b3 b4 vn vk (.slice at' nt ct)) 332) = w1 at *
    have x0:=(zaa q 0).trans rfl
    have x6:=(zaa q 6).trans rfl
    go_wp2_with (refine zaj rfl 332 _ rfl w.heap.size _ 332 rfl q _ Tryz.underlying332 rfl 14 zco rfl ?_)
    refine (hA _ B).mono ?_
    rintro e w2 ⟨rfl,b2⟩
    go_wp2_with fail
    go_ret
    exact ⟨rfl,B.trans (b2.mono B.size)⟩
   | false=>
    go_enter Tryz.func343,Tryz.ntmps343
    go_upto_region 1 with fail
    generalize w.alloc (.cells (ntA _ p o v s vm r b1 b2 b3 b4 vn vk (.slice at' nt ct)) 332) = w1 at *
    have x0:=(zaa q 0).trans rfl
    have x6:=(zaa q 6).trans rfl
    go_wp2_with (refine zaj rfl 332 _ rfl w.heap.size _ 332 rfl q _ Tryz.underlying332 rfl 14 zco rfl ?_)
    refine (hA _ B).mono ?_
    rintro e w2 ⟨rfl,b2⟩
    go_wp2_with fail
    go_ret
    exact ⟨rfl,B.trans (b2.mono B.size)⟩
 have h5:¬ k = 5:=fun h=>h56 (Or.inl h)
 have h6:¬ k = 6:=fun h=>h56 (Or.inr h)
 have e0:isT k r ts = 2:=by
  unfold isT
  rw [if_neg h1,if_neg h2,if_neg (fun h=>h56 h.1)]
 rw [e0]
 clear e0 h56 hA
 go_enter Tryz.func343,Tryz.ntmps343
 go_upto_region 1 with fail
 generalize w.alloc (.cells (ntA k p o v s vm r b1 b2 b3 b4 vn vk (.slice at' nt ct)) 332) = w1 at *
 have x0:=(zaa q 0).trans rfl
 have x6:=(zaa q 6).trans rfl
 go_wp2_with fail
 go_ret
 exact ⟨rfl,B⟩
end
def fltV:Option (Int × Int) → Value
 | none=>.nilIface
 | some b=>.iface 290 (.agg #[iv b.1,iv b.2])
def misO (k p:Int) (b3 b4:Bool) (s:Str) (ps ts:List Int):Option (Int × Int):=match misP k ps ts with
 | some q=>some (q,90)
 | none=>if k = 5 ∧ joinsB b3 b4 s ts = false then some (p,90) else none
theorem misP_step (k:Int) (ps ts:List Int) (j:Nat) (h1:j < ps.length) (h2:j < ts.length):misP k (ps.drop j) (ts.drop j) = if takesB k (ts.getD j 0) = true then misP k (ps.drop (j + 1)) (ts.drop (j + 1)) else some (ps.getD j 0):=by
 rw [List.drop_eq_getElem_cons h1,List.drop_eq_getElem_cons h2,misP]
 simp [List.getD,List.getElem?_eq_getElem h1,List.getElem?_eq_getElem h2]
theorem misP_end (k:Int) (ps ts:List Int) (j:Nat) (h:ts.length ≤ j):misP k (ps.drop j) (ts.drop j) = none:=by
 rw [List.drop_of_length_le h]
 cases ps.drop j <;> rfl
theorem head13 {W:World} {b:Nat} {k p:Int} {o:Bool} {v:Int} {s:Str} {vm:Value} {r:Int} {b1 b2 b3 b4:Bool} {vn vk vt:Value} {t:TypeId} (h:W.heap[b]? = some (.cells (ntA k p o v s vm r b1 b2 b3 b4 vn vk vt) t)):W.rangeAt b 0 (exA k p o v s vm r b1 b2 b3 b4 vn vk).toList:=fun j u hu=>by
 have hj:j < 13:=by simpa using (List.getElem?_eq_some_iff.1 hu).1
 have e:(ntA k p o v s vm r b1 b2 b3 b4 vn vk vt)[j]? = (exA k p o v s vm r b1 b2 b3 b4 vn vk)[j]?:=by
  rw [show ntA k p o v s vm r b1 b2 b3 b4 vn vk vt = (exA k p o v s vm r b1 b2 b3 b4 vn vk).push vt from rfl,Array.getElem?_push,if_neg (by simp;omega)]
 rw [Nat.zero_add,zaa h,e,← Array.getElem?_toList]
 exact hu
def HeldTy (nb:Nat) (nd:Array Value) (tb tq:Nat) (u:Int) (W:World):Prop:=W.heap[nb]? = some (.cells nd 332) ∧ W.cell? ⟨tb,tq,none⟩ = some (iv u)
theorem zoi {P P':Nat → Prop} (k p:Int) (o:Bool) (v:Int) (s:Str) (vm:Value) (r:Int) (b1 b2 b3 b4:Bool) (vn:Value) (ao:Option Addr) (n cap:Nat) (at':Option Addr) (nt ct:Nat) (ks:List Ex) (ts:List Int) (w:World) (hks:ks.length = n) (hn:n ≤ 100000) (htl:ts.length = ks.length)
  (hkid:∀ (i:Nat) (x:Ex),ks[i]? = some x → ∃ b off ci,ao = some ⟨b,off,none⟩ ∧ Kid P w b off i x ci) (hts:SlP P' w (.slice at' nt ct) ts.length (ts.map iv)) :
  Calls Tryz.prog 342 #[.agg (ntA k p o v s vm r b1 b2 b3 b4 vn (.slice ao n cap) (.slice at' nt ct))] w fun e w'=>e = .returned (fltV (misO k p b3 b4 s (ks.map (·.p)) ts)) ∧ Below w.heap.size w w':=by
 have q:=zac w (.cells (ntA k p o v s vm r b1 b2 b3 b4 vn (.slice ao n cap) (.slice at' nt ct)) 332)
 have B:=bal (Below.refl w.heap.size w) (.cells (ntA k p o v s vm r b1 b2 b3 b4 vn (.slice ao n cap) (.slice at' nt ct)) 332)
 have z1:=zaf w (.cells (ntA k p o v s vm r b1 b2 b3 b4 vn (.slice ao n cap) (.slice at' nt ct)) 332)
 have T:=hts.later B
 have hnl0:=(SlP.ints T).1
 have HJ:Hid (∀ W,Below w.heap.size w W → Calls Tryz.prog 380 #[.agg (ntA k p o v s vm r b1 b2 b3 b4 vn (.slice ao n cap) (.slice at' nt ct))] W fun e w'=>e = .returned (.bool (joinsB b3 b4 s ts)) ∧ Below W.heap.size W w'):=fun W hW=>joins_any k p o v s vm r b1 b2 b3 b4 vn (.slice ao n cap) at' nt ct ts W (hts.later hW) (by omega)
 have HK:Hid _:=hkid
 have HT:Hid _:=T
 have HN:Hid (ks.length = n):=hks
 have HL:Hid (ts.length = n):=htl.trans hks
 have hnn:nt = n:=by omega
 subst hnn
 have HG:Hid (misO k p b3 b4 s (ks.map (·.p)) ts = match misP k (ks.map (·.p)) ts with
  | some q=>some (q,90)
  | none=>if k = 5 ∧ joinsB b3 b4 s ts = false then some (p,90) else none):=rfl
 clear hkid hts htl hks hnl0 T
 generalize misO k p b3 b4 s (ks.map (·.p)) ts = RES at *
 go_enter Tryz.func342,Tryz.ntmps342
 go_upto_region 1 with fail
 generalize w.alloc (.cells (ntA k p o v s vm r b1 b2 b3 b4 vn (.slice ao nt cap) (.slice at' nt ct)) 332) = w1 at *
 have x12:=(zaa q 12).trans rfl
 go_wp2_with fail
 clear x12
 go_loopw [9] (fun i wr=>∃ j:Nat,j ≤ nt ∧ i = .int .i64 j ∧ Below w1.heap.size w1 wr ∧ Hid (misP k (ks.map (·.p)) ts = misP k ((ks.map (·.p)).drop j) (ts.drop j))) (fun i _=>nt - (intOf i).toNat)
 case atStart=>exact ⟨0,by omega,rfl,Below.refl _ _,rfl⟩
 case round=>
  obtain ⟨j,hj,rfl,C,HA⟩:=hrel
  have BC:=B.trans (C.mono B.size)
  have qn:=zab C q
  by_cases hlt:j < nt
  ·
   have hlt':(j:Int) < nt:=by omega
   obtain ⟨x,hx⟩:∃ x,ks[j]? = some x:=⟨_,List.getElem?_eq_getElem (by have:=HN.out;omega)⟩
   obtain ⟨b,off,ci,ea,kd⟩:=HK.out j x hx
   obtain ⟨tb,tq,et,c0⟩:=(SlP.ints (SlP.later HT.out C)).2.2 j hlt
   have HP:Hid (misP k ((ks.map (·.p)).drop j) (ts.drop j) = if takesB k (ts.getD j 0) = true then misP k ((ks.map (·.p)).drop (j + 1)) (ts.drop (j + 1)) else some x.p):=by
    have h:=misP_step k (ks.map (·.p)) ts j (by rw [List.length_map];have:=HN.out;omega) (by have:=HL.out;omega)
    rw [show (ks.map (·.p)).getD j 0 = x.p by simp [List.getD,hx]] at h
    exact h
   have kd1:=kd.later BC
   have row:=kd1.t.row
   subst ea
   subst et
   generalize ts.getD j 0 = u at *
   have hT:=fun W=>takes_any k p o v s vm r b1 b2 b3 b4 vn (.slice (some ⟨b,off,none⟩) nt cap) (.slice (some ⟨tb,tq,none⟩) nt ct) u W
   have q0:=zac wr (.cells zE 28)
   have Ba:=bal (Below.refl wr.heap.size wr) (.cells zE 28)
   have hbw:=kd1.lt
   have zc:=C.size
   have htb:tb < wr.heap.size:=World.block_lt_of_cell? _ _ c0
   clear hx kd
   go_wp2_with (first | (refine zdf rfl _ rfl b (off + j * 13) ci rfl kd1.r row.1 ?_) | (refine zad rfl 28 _ _ rfl wr.heap.size ci rfl rfl _ 28 q0 13 zae rfl row ?_;intro w5 q5 o5 z5;clear z5))
   have D5:=((Off.of Ba []).trans o5 (by simp)).below (by simp)
   have qn5:=zab D5 qn
   have c5:=(Off.of D5 []).cell c0 (by simp)
   have D6:=D5.trans ((zag w5).mono D5.size)
   have q6:=zab (zag w5) q5
   have S4:HeldTy w.heap.size (ntA k p o v s vm r b1 b2 b3 b4 vn (.slice (some ⟨b,off,none⟩) nt cap) (.slice (some ⟨tb,tq,none⟩) nt ct)) tb (tq + j) u (World.drew w5):=⟨zab (zag w5) qn5,(Off.of (zag w5) []).cell c5 (by simp)⟩
   refine wp_region_noPanic ?_
   refine wp_region_held_drew (S:=HeldTy w.heap.size (ntA k p o v s vm r b1 b2 b3 b4 vn (.slice (some ⟨b,off,none⟩) nt cap) (.slice (some ⟨tb,tq,none⟩) nt ct)) tb (tq + j) u) (by kernel_rfl) ?_ (fun _=>?_)
   ·
    exact S4
   clear D5 qn5 c5 q5 o5 Ba q0
   generalize w5.drew = w6 at *
   refine tk 0 14 (.agg (ntA k p o v s vm r b1 b2 b3 b4 vn (.slice (some ⟨b,off,none⟩) nt cap) (.slice (some ⟨tb,tq,none⟩) nt ct))) rfl (fun W hSw=>by exact zar 332 _ rfl w.heap.size _ 332 rfl W hSw.1 _ Tryz.underlying332 rfl 14 zco rfl) S4 ?_
   simp only [Act.put,pB,pC,pD]
   refine tk 1 15 (.pointer (some ⟨w.heap.size,13,none⟩)) rfl (fun W hSw=>by go_simp) S4 ?_
   simp only [Act.put,pB,pC,pD]
   refine tk 2 16 (.slice (some ⟨tb,tq,none⟩) nt ct) rfl (fun W hSw=>by have x:=(zaa hSw.1 13).trans rfl;go_simp) S4 ?_
   simp only [Act.put,pB,pC,pD]
   refine tk 3 17 (.int .i64 j) rfl (fun W hSw=>by go_simp) S4 ?_
   simp only [Act.put,pB,pC,pD]
   refine tk 4 18 (.pointer (some ⟨tb,tq + j,none⟩)) rfl (fun W hSw=>by go_simp) S4 ?_
   simp only [Act.put,pB,pC,pD]
   refine tk 5 19 (iv u) rfl (fun W hSw=>by have x:=hSw.2;go_simp) S4 ?_
   simp only [Act.put,pB,pC,pD]
   cases hq:takesB k u with
   | true=>
    simp only [hq] at hT
    have HR:Hid (misP k (ks.map (·.p)) ts = misP k ((ks.map (·.p)).drop (j + 1)) (ts.drop (j + 1))):=by show _ = _;rw [HA.out,HP.out,hq,if_pos rfl]
    clear HP HA hq
    refine wpAnyH_ready (rs:=[6]) (by kernel_rfl) (by simp) ?_
    refine aR rfl fun K hK=>?_
    go_simp
    refine (hT _).mono ?_
    rintro e w7 ⟨rfl,b7⟩
    have S7:HeldTy w.heap.size (ntA k p o v s vm r b1 b2 b3 b4 vn (.slice (some ⟨b,off,none⟩) nt cap) (.slice (some ⟨tb,tq,none⟩) nt ct)) tb (tq + j) u w7:=⟨zab b7 S4.1,(Off.of b7 []).cell S4.2 (by simp)⟩
    have D7:=D6.trans (b7.mono D6.size)
    have q7:=zab b7 q6
    refine hK.out _ _ ?_ (fun _=>?_)
    ·
     exact S7
    clear hK K
    refine tk 7 21 (.bool false) rfl (fun W hSw=>by go_simp) S7 ?_
    simp only [Act.put,pB,pC,pD]
    refine wpAnyH_done (by kernel_rfl) ?_ _
    refine NoPanic.normal ?_
    go_wp2_with fail
    go_roundw
    case rel=>exact ⟨j + 1,by omega,by go_num,C.trans (D7.mono C.size),HR⟩
    case measure=>simp [intOf];omega
   | false=>
    simp only [hq] at hT
    have HR:Hid (RES = some (x.p,90)):=by
     show _ = _
     rw [HG.out,HA.out,HP.out,hq,if_neg (by simp)]
    clear HP HA hq HG
    refine wpAnyH_ready (rs:=[6]) (by kernel_rfl) (by simp) ?_
    refine aR rfl fun K hK=>?_
    go_simp
    refine (hT _).mono ?_
    rintro e w7 ⟨rfl,b7⟩
    have S7:HeldTy w.heap.size (ntA k p o v s vm r b1 b2 b3 b4 vn (.slice (some ⟨b,off,none⟩) nt cap) (.slice (some ⟨tb,tq,none⟩) nt ct)) tb (tq + j) u w7:=⟨zab b7 S4.1,(Off.of b7 []).cell S4.2 (by simp)⟩
    have D7:=D6.trans (b7.mono D6.size)
    have q7:=zab b7 q6
    refine hK.out _ _ ?_ (fun _=>?_)
    ·
     exact S7
    clear hK K
    refine tk 7 21 (.bool true) rfl (fun W hSw=>by go_simp) S7 ?_
    simp only [Act.put,pB,pC,pD]
    refine wpAnyH_done (by kernel_rfl) ?_ _
    refine NoPanic.normal ?_
    obtain ⟨vm2,vn2,ao2,cap2,ec,_,_,_,_⟩:=kd1.t.parts
    have hF:=fun W=>zdx ci _ _ _ _ _ _ _ _ _ _ _ _ _ ec 90 W
    clear ec
    go_wp2_with (refine zaj rfl 28 _ rfl wr.heap.size ci 28 rfl q7 _ Tryz.underlying28 rfl 13 zae row.1 ?_)
    refine (hF _).mono ?_
    rintro e w8 ⟨rfl,b8⟩
    go_wp2_with fail
    go_ret
    exact ⟨by rw [HR.out];rfl,BC.trans ((D7.trans (b8.mono D7.size)).mono BC.size)⟩
  have hlt':¬ (j:Int) < nt:=by omega
  have HR:Hid (RES = if k = 5 ∧ joinsB b3 b4 s ts = false then some (p,90) else none):=by
   show _ = _
   rw [HG.out,HA.out,misP_end _ _ _ _ (by have:=HL.out;omega)]
  have hJ:=HJ.out _ BC
  clear HJ HA HG HK HT HN HL
  generalize joinsB b3 b4 s ts = z at *
  have x0:=(zaa qn 0).trans rfl
  have x1:=(zaa qn 1).trans rfl
  have x2:=(zaa qn 2).trans rfl
  have x3:=(zaa qn 3).trans rfl
  have x4:=(zaa qn 4).trans rfl
  have x5:=(zaa qn 5).trans rfl
  have x6:=(zaa qn 6).trans rfl
  have x7:=(zaa qn 7).trans rfl
  have x8:=(zaa qn 8).trans rfl
  have x9:=(zaa qn 9).trans rfl
  have x10:=(zaa qn 10).trans rfl
  have x11:=(zaa qn 11).trans rfl
  have x12:=(zaa qn 12).trans rfl
  have x13:=(zaa qn 13).trans rfl
  by_cases h5:k = 5
  ·
   subst h5
   cases z with
   | true=>
    have HR2:Hid (RES = none):=by show _ = _;rw [HR.out];simp
    clear HR
    go_wp2_with fail
    refine hJ.mono ?_
    rintro e w8 ⟨rfl,b8⟩
    go_wp2_with fail
    go_ret
    exact ⟨by rw [HR2.out];rfl,BC.trans (b8.mono BC.size)⟩
   | false=>
    have HR2:Hid (RES = some (p,90)):=by show _ = _;rw [HR.out];simp
    clear HR
    go_wp2_with fail
    refine hJ.mono ?_
    rintro e w8 ⟨rfl,b8⟩
    have hd8:=head13 (zab b8 qn)
    have hF:=fun W=>zdx _ 5 p o v s vm r b1 b2 b3 b4 vn (.slice ao nt cap) rfl 90 W
    go_wp2_with (refine zdf rfl _ rfl w.heap.size 0 _ rfl hd8 rfl ?_)
    refine (hF _).mono ?_
    rintro e w9 ⟨rfl,b9⟩
    go_wp2_with fail
    go_ret
    exact ⟨by rw [HR2.out];rfl,BC.trans ((b8.trans (b9.mono b8.size)).mono BC.size)⟩
  have HR2:Hid (RES = none):=by show _ = _;rw [HR.out,if_neg (fun h=>h5 h.1)]
  clear HR hJ
  go_wp2_with fail
  go_ret
  exact ⟨by rw [HR2.out];rfl,BC⟩
theorem info3:(Tryz.prog.info? 3).map (fun i=>(i.zero,i.size,i.bytes)) = some (some (.int .i64 0),1,8):=by kernel_rfl
theorem zln:∃ i,Tryz.prog.info? 3 = some i ∧ i.zero = some (.int .i64 0) ∧ i.size = 1 ∧ i.bytes = 8:=by
 have h:=info3
 cases hi:Tryz.prog.info? 3 with
 | none=>rw [hi] at h;cases h
 | some i=>
  rw [hi] at h
  simp only [Option.map_some,Option.some.injEq,Prod.mk.injEq] at h
  exact ⟨i,rfl,h.1,h.2.1,h.2.2⟩
def OwnI (w:World) (base:Nat) (v:Value) (l:List Int):Prop:=w.ownsRow base 3 1 v l.length (l.map iv)
theorem OwnI.kept {w w':World} {row:Option Nat} {base:Nat} {v:Value} {l:List Int} (h:OwnI w base v l) (hg:w.grownBy w' row) (hne:∀ b,v.ownBlock = some b → some b ≠ row):OwnI w' base v l:=by
 refine World.ownsRow.kept h hg ?_
 cases e:v.ownBlock with
 | none=>exact Or.inl rfl
 | some b=>exact Or.inr (hne b e)
theorem OwnI.later {w w':World} {base:Nat} {v:Value} {l:List Int} (h:OwnI w base v l) (hb:Below w.heap.size w w'):OwnI w' base v l:=h.kept (zgg hb Option.none) (by simp)
theorem OwnI.snoc {w:World} {base:Nat} {v:Value} {l:List Int} {x:Int} (h:w.ownsRow base 3 1 v (l.length + 1) (l.map iv ++ [iv x])):OwnI w base v (l ++ [x]):=by
 unfold OwnI
 rw [List.map_append,List.length_append]
 exact h
theorem OwnI.sl {w:World} {base:Nat} {v:Value} {l:List Int} (h:OwnI w base v l):Sl w base v l.length (l.map iv):=Sl.owns h (by simp)
theorem snd_len {e:Ex} (h:sndE e = true):e.ks.length ≤ 2 ∧ ∀ x ∈ e.ks,sndE x = true:=by
 rw [zkr,Bool.and_eq_true,Bool.and_eq_true] at h
 obtain ⟨⟨_,hk⟩,hall⟩:=h
 refine ⟨?_,fun x hx=>List.all_eq_true.1 hall x hx⟩
 unfold kindE fK at hk
 repeat' split at hk
 all_goals first | (simp only [Bool.and_eq_true,decide_eq_true_eq] at hk;omega) | cases hk
def TyOK (P:Nat → Prop) (e:Ex):Prop:=Sm e → sndE e = true → ∀ (w:World) (cs:Array Value),TrP P w e cs → Calls Tryz.prog 296 #[.agg cs] w fun x w'=>x = .returned (.tuple #[iv (tyE e).1,fltV (if (tyE e).2.2 = 0 then none else some (tyE e).2)]) ∧ Below w.heap.size w w'
def tysO (l:List Ex):Option (Int × Int):=badT (l.map tyE)
theorem tysO_step (l:List Ex) (j:Nat) (x:Ex) (hx:l[j]? = some x) (h:badT ((l.take j).map tyE) = none):badT ((l.take (j + 1)).map tyE) = (if (tyE x).2.2 = 0 then none else some (tyE x).2):=by
 rw [List.take_add_one,hx,List.map_append,zec _ _ h]
 rfl
theorem tysO_bad (l:List Ex) (j:Nat) (x:Ex) (hx:l[j]? = some x) (h:badT ((l.take j).map tyE) = none) (h0:(tyE x).2.2 ≠ 0):tysO l = some (tyE x).2:=by
 have e:l = l.take j ++ x :: l.drop (j + 1):=by
  have hj:=(List.getElem?_eq_some_iff.1 hx).1
  have he:=(List.getElem?_eq_some_iff.1 hx).2
  rw [← he,List.getElem_cons_drop,List.take_append_drop]
 unfold tysO
 rw [e,List.map_append,zec _ _ h,List.map_cons,badT,if_neg h0]
def kt (l:List Ex):List Int:=l.map fun x=>(tyE x).1
theorem kt_step (l:List Ex) (j:Nat) (x:Ex) (hx:l[j]? = some x):kt (l.take (j + 1)) = kt (l.take j) ++ [(tyE x).1]:=by
 unfold kt
 rw [List.take_add_one,hx,List.map_append]
 rfl
theorem zkn {P:Nat → Prop} {w:World} {ao:Option Addr} {cap:Nat} (ks:List Ex) (n:Nat) (hnk:ks.length = n) (ih:∀ x ∈ ks,TyOK P x) (hs:∀ x,x ∈ ks → Sm x) (hd:∀ x,x ∈ ks → sndE x = true) (hn:n ≤ 100000)
  (hkid:∀ (i:Nat) (x:Ex),ks[i]? = some x → ∃ b off ci,ao = some ⟨b,off,none⟩ ∧ Kid P w b off i x ci) :
  Calls Tryz.prog 341 #[.slice ao n cap] w fun e w'=>(∃ v,e = .returned (.tuple #[v,fltV (tysO ks)]) ∧ (tysO ks = none → OwnI w' w.heap.size v (kt ks))) ∧ Below w.heap.size w w':=by
 have HK:Hid _:=hkid
 have HI:Hid _:=ih
 have HM:Hid _:=hs
 have HD:Hid _:=hd
 have HN:Hid (ks.length = n):=hnk
 obtain ⟨i0,hi,hz0,hz1,hz2⟩:=zln
 have ho0:OwnI (w.alloc (.cells #[] 3)) w.heap.size (.slice (some ⟨w.heap.size,0,none⟩) 0 0) []:=⟨rfl,Or.inr ⟨_,0,#[],rfl,Nat.le_refl _,zac _ _,Nat.le_refl _,by unfold maxLen;omega,rfl,rfl⟩⟩
 have B0:=bal (Below.refl w.heap.size w) (.cells #[] 3)
 clear hkid ih hs hd hnk
 go_enter Tryz.func341,Tryz.ntmps341
 go_upto_region 2 with fail
 generalize w.alloc (.cells #[] 3) = w1 at *
 have z1:=B0.size
 generalize hv0:Value.slice (some ⟨w.heap.size,0,none⟩) 0 0 = v0 at *
 clear hv0
 go_wp2_with fail
 go_loopw [4,12] (fun u i wr=>∃ (j:Nat),j ≤ n ∧ i = .int .i64 j ∧ OwnI wr w.heap.size u (kt (ks.take j)) ∧ Below w.heap.size w wr ∧ Hid (badT ((ks.take j).map tyE) = none)) (fun _ i _=>n - (intOf i).toNat)
 case atStart=>exact ⟨0,by omega,rfl,ho0,B0,rfl⟩
 case round=>
  clear ho0 B0
  obtain ⟨j,hj,rfl,ho,B,HB⟩:=hrel
  by_cases hlt:j < n
  ·
   have hlt':(j:Int) < n:=by omega
   obtain ⟨x,hx⟩:∃ x,ks[j]? = some x:=⟨_,List.getElem?_eq_getElem (by have:=HN.out;omega)⟩
   obtain ⟨b,off,ci,ea,kd⟩:=HK.out j x hx
   have kd1:=kd.later B
   have row:=kd1.t.row
   subst ea
   have zb:=B.size
   have his:=fun W hW=>HI.out x (List.mem_of_getElem? hx) (HM.out x (List.mem_of_getElem? hx)) (HD.out x (List.mem_of_getElem? hx)) W ci hW
   have HX:Hid (kt (ks.take (j + 1)) = kt (ks.take j) ++ [(tyE x).1]):=kt_step _ _ _ hx
   have HY:Hid (badT ((ks.take (j + 1)).map tyE) = (if (tyE x).2.2 = 0 then none else some (tyE x).2)):=tysO_step _ _ _ hx HB.out
   have HZ:Hid ((tyE x).2.2 ≠ 0 → tysO ks = some (tyE x).2):=tysO_bad _ _ _ hx HB.out
   have Ba:=bal (Below.refl wr.heap.size wr) (.cells zE 28)
   have q0:=zac wr (.cells zE 28)
   have hbw:=kd1.lt
   have hll:Hid ((kt (ks.take j)).length = j):=by show _ = _;unfold kt;rw [List.length_map,List.length_take];have:=HN.out;omega
   clear hx kd
   generalize tyE x = TX at *
   by_cases h0:TX.2.2 = 0
   ·
    rw [if_pos h0] at HY
    simp only [if_pos h0,fltV] at his
    clear HZ h0
    go_wp2_with (first | (refine zdf rfl _ rfl b (off + j * 13) ci rfl kd1.r row.1 ?_) | (refine zad rfl 28 _ _ rfl wr.heap.size ci rfl rfl _ 28 q0 13 zae rfl row ?_;intro w5 q5 o5 z5;clear z5;have D5:=((Off.of Ba []).trans o5 (by simp)).below (by simp)) | (refine zaj rfl 28 _ rfl wr.heap.size ci 28 rfl q5 _ Tryz.underlying28 rfl 13 zae row.1 ?_))
    have zd:=D5.size
    refine (his _ (TrP.later kd1.t D5)).mono ?_
    rintro e w6 ⟨rfl,b6⟩
    have B6:=B.trans ((D5.trans (b6.mono D5.size)).mono zb)
    have ho6:=ho.later (D5.trans (b6.mono D5.size))
    have ho7:=ho6.later (bal (Below.refl w6.heap.size w6) (.cells #[iv TX.1] 3))
    have B7:=bal B6 (.cells #[iv TX.1] 3)
    have zl:=hll.out
    have zB7:=B7.size
    have zk:=HN.out
    go_wp2_with (at_builtin;go_must (refine wpList_append_own _ rfl _ _ 328 rfl w.heap.size 3 i0 (.int .i64 0) 1 8 Tryz.underlying328 hi hz0 hz1 hz2 rfl (by decide) _ _ _ rfl ho7 ⟨w6.heap.size,0,none⟩ 1 1 [iv TX.1] rfl rfl (zbk (World.cell?_alloc_new w6 _ _ 0)) (fun u hu=>by cases hu with | head=>rfl | tail _ h=>cases h) ?h63 ?hby ?hbs ?_))
    case h63=>unfold maxLen;omega
    case hby=>omega
    case hbs=>omega
    intro v4 w4 ho4 hg4 _
    have B4:Below w.heap.size w w4:=B7.grown hg4 (by omega) (fun k hk=>(World.ownsRow.lt ho7 k hk).1)
    have ho5:=OwnI.snoc (l:=kt (ks.take j)) (x:=TX.1) (by rw [hll.out];exact ho4)
    clear zl zk
    go_wp2_with fail
    go_roundw
    case rel=>exact ⟨j + 1,by omega,by go_num,by rw [HX.out];exact ho5,B4,HY⟩
    case measure=>simp [intOf];omega
   have HZ2:Hid (tysO ks = some TX.2):=HZ.out h0
   simp only [if_neg h0,fltV] at his
   clear HZ h0 HY HX
   go_wp2_with (first | (refine zdf rfl _ rfl b (off + j * 13) ci rfl kd1.r row.1 ?_) | (refine zad rfl 28 _ _ rfl wr.heap.size ci rfl rfl _ 28 q0 13 zae rfl row ?_;intro w5 q5 o5 z5;clear z5;have D5:=((Off.of Ba []).trans o5 (by simp)).below (by simp)) | (refine zaj rfl 28 _ rfl wr.heap.size ci 28 rfl q5 _ Tryz.underlying28 rfl 13 zae row.1 ?_))
   have zd:=D5.size
   refine (his _ (TrP.later kd1.t D5)).mono ?_
   rintro e w6 ⟨rfl,b6⟩
   have B6:=B.trans ((D5.trans (b6.mono D5.size)).mono zb)
   go_wp2_with fail
   go_ret2
   exact ⟨⟨_,by rw [HZ2.out];rfl,fun h=>by rw [HZ2.out] at h;cases h⟩,B6⟩
  have hlt':¬ (j:Int) < n:=by omega
  have HR:Hid (tysO ks = none):=by
   have h1:=HN.out
   have h2:=HB.out
   rw [List.take_of_length_le (by omega)] at h2
   exact h2
  have ho9:=ho
  rw [List.take_of_length_le (by have:=HN.out;omega)] at ho9
  clear HB HI HK HM HD ho
  go_wp2_with fail
  go_ret2
  exact ⟨⟨_,by rw [HR.out];rfl,fun _=>ho9⟩,B⟩
theorem kt_eq (l:List Ex):(l.map tyE).map (·.1) = kt l:=by
 rw [List.map_map]
 rfl
theorem fit_some (e:Ex) (ts:List Int) (b:Int × Int) (h:misO e.k e.p e.b3 e.b4 e.s (e.ks.map (·.p)) ts = some b):fitT e ts = (0,b.1,b.2) ∧ b.2 = 90:=by
 unfold misO at h
 unfold fitT
 cases hm:misP e.k (e.ks.map (·.p)) ts with
 | some q=>
  rw [hm] at h
  injection h with h
  rw [← h]
  exact ⟨rfl,rfl⟩
 | none=>
  rw [hm] at h
  dsimp only at h ⊢
  split at h
  ·
   rename_i hc
   injection h with h
   rw [if_pos hc,← h]
   exact ⟨rfl,rfl⟩
  cases h
theorem fit_none (e:Ex) (ts:List Int) (h:misO e.k e.p e.b3 e.b4 e.s (e.ks.map (·.p)) ts = none):fitT e ts = (isT e.k e.r ts,0,0):=by
 unfold misO at h
 unfold fitT
 cases hm:misP e.k (e.ks.map (·.p)) ts with
 | some q=>
  rw [hm] at h
  cases h
 | none=>
  rw [hm] at h
  dsimp only at h ⊢
  split at h
  ·
   cases h
  rename_i hc
  rw [if_neg hc]
theorem rowNt (k p:Int) (o:Bool) (v:Int) (s:Str) (am an ao at':Option Addr) (nm cm r:Nat) (rr:Int) (b1 b2 b3 b4:Bool) (cn n cap nt ct:Nat):Row 14 (ntA k p o v s (.slice am nm cm) rr b1 b2 b3 b4 (.slice an r cn) (.slice ao n cap) (.slice at' nt ct)):=⟨rfl,rfl⟩
abbrev zN:Array Value:=#[.int .i64 0,.int .i64 0,.bool false,.int .i64 0,.string ⟨#[]⟩,.slice none 0 0,.int .i64 0,.bool false,.bool false,.bool false,.bool false,.slice none 0 0,.slice none 0 0,.slice none 0 0]
theorem ty_ok {P:Nat → Prop} (e:Ex):TyOK P e:=by
 refine Ex.ind (TyOK P) ?_ e
 intro e ih hs hsnd w cs h
 obtain ⟨_,_,_,_,_,_,s7⟩:=(zpg e).1 hs
 obtain ⟨hl2,hdk⟩:=snd_len hsnd
 obtain ⟨vm,vn,ao,cap,rfl,sm,sn,hcap,hkid⟩:=h.parts
 obtain ⟨am,cm,rfl,_⟩:=id sm
 obtain ⟨an,cn,rfl,_⟩:=id sn
 obtain ⟨n,hn⟩:∃ n,e.ks.length = n:=⟨_,rfl⟩
 rw [hn]
 have hn2:n ≤ 2:=by omega
 have kid2:=fun W (hW:Below w.heap.size w W) (i:Nat) (x:Ex) (hx:e.ks[i]? = some x)=>show ∃ b off ci,ao = some ⟨b,off,none⟩ ∧ Kid P W b off i x ci by
  obtain ⟨b,off,ci,ea,kd⟩:=hkid i x hx
  exact ⟨b,off,ci,ea,kd.later hW⟩
 have HT:=fun W (hW:Below w.heap.size w W)=>zkn (w:=W) (ao:=ao) (cap:=cap) e.ks n hn ih s7 hdk (by omega) (kid2 W hW)
 have HF:=fun y W=>zdx (exA e.k e.p e.o e.v e.s (.slice am e.m.length cm) e.r e.b1 e.b2 e.b3 e.b4 (.slice an e.ns.length cn) (.slice ao n cap)) _ _ _ _ _ _ _ _ _ _ _ _ _ rfl y W
 have HW:=fun W=>zom e.s W
 have HM:=fun (P':Nat → Prop) W (hW:Below w.heap.size w W) at' ct (hts:SlP P' W (.slice at' n ct) (kt e.ks).length ((kt e.ks).map iv))=>zoi e.k e.p e.o e.v e.s (.slice am e.m.length cm) e.r e.b1 e.b2 e.b3 e.b4 (.slice an e.ns.length cn) ao n cap at' n ct e.ks (kt e.ks) W hn (by omega) (by unfold kt;rw [List.length_map]) (kid2 W hW) hts
 have HI:=fun (P':Nat → Prop) W at' ct (hts:SlP P' W (.slice at' n ct) (kt e.ks).length ((kt e.ks).map iv))=>isN_any e.k e.p e.o e.v e.s (.slice am e.m.length cm) e.r e.b1 e.b2 e.b3 e.b4 (.slice an e.ns.length cn) (.slice ao n cap) at' n ct (kt e.ks) W hts (by omega)
 have hkl:(kt e.ks).length = n:=by unfold kt;rw [List.length_map];exact hn
 have q:=zac w (.cells (exA e.k e.p e.o e.v e.s (.slice am e.m.length cm) e.r e.b1 e.b2 e.b3 e.b4 (.slice an e.ns.length cn) (.slice ao n cap)) 28)
 have B:=bal (Below.refl w.heap.size w) (.cells (exA e.k e.p e.o e.v e.s (.slice am e.m.length cm) e.r e.b1 e.b2 e.b3 e.b4 (.slice an e.ns.length cn) (.slice ao n cap)) 28)
 have row:Row 13 (exA e.k e.p e.o e.v e.s (.slice am e.m.length cm) e.r e.b1 e.b2 e.b3 e.b4 (.slice an e.ns.length cn) (.slice ao n cap)):=⟨rfl,rfl⟩
 have HE:tyE e = tyG e (e.ks.map tyE):=tyE_eq e
 unfold tyG at HE
 rw [kt_eq] at HE
 clear ih hs hsnd h s7 hdk sm sn hcap hkid kid2 hl2 hn
 by_cases h3:e.k = 3 ∧ knw e.s = false
 ·
  rw [if_pos h3] at HE
  obtain ⟨hk,hw⟩:=h3
  rw [HE]
  have tk:(e.k == 3) = true:=beq_iff_eq.2 hk
  simp only [hw] at HW
  have HF1:=HF 91
  show Calls _ _ _ _ fun x w'=>x = .returned (.tuple #[iv 0,.iface 290 (.agg #[iv e.p,iv 91])]) ∧ Below w.heap.size w w'
  clear HE hk hw HT HM HI HF
  go_enter Tryz.func296,Tryz.ntmps296
  go_upto_region 1 with fail
  generalize w.alloc (.cells (exA e.k e.p e.o e.v e.s (.slice am e.m.length cm) e.r e.b1 e.b2 e.b3 e.b4 (.slice an e.ns.length cn) (.slice ao n cap)) 28) = w1 at *
  have x0:=(zaa q 0).trans rfl
  have x4:=(zaa q 4).trans rfl
  go_wp2_with fail
  refine (HW _).mono ?_
  rintro x w2 ⟨rfl,rfl⟩
  go_wp2_with (refine zaj rfl 28 _ rfl w.heap.size _ 28 rfl q _ Tryz.underlying28 rfl 13 zae rfl ?_)
  refine (HF1 _).mono ?_
  rintro x w3 ⟨rfl,b3⟩
  go_wp2_with fail
  go_ret2
  exact ⟨rfl,B.trans (b3.mono B.size)⟩
 rw [if_neg h3] at HE
 have hw:Hid ((e.k == 3) = false ∨ ((e.k == 3) = true ∧ knw e.s = true)):=by
  by_cases hk:e.k = 3
  ·
   exact Or.inr ⟨beq_iff_eq.2 hk,by cases hq:knw e.s with | true=>rfl | false=>exact absurd ⟨hk,hq⟩ h3⟩
  exact Or.inl (beq_eq_false_iff_ne.2 hk)
 clear h3
 have hO:tysO e.ks = badT (e.ks.map tyE):=rfl
 rw [← hO] at HE
 clear hO
 cases hB:tysO e.ks with
 | some b=>
  have hb0:b.2 ≠ 0:=zgm _ _ hB
  rw [hB] at HE
  rw [HE]
  simp only [hB,fltV] at HT
  show Calls _ _ _ _ fun x w'=>x = .returned (.tuple #[iv 0,fltV (if b.2 = 0 then none else some (b.1,b.2))]) ∧ Below w.heap.size w w'
  rw [if_neg hb0]
  show Calls _ _ _ _ fun x w'=>x = .returned (.tuple #[iv 0,.iface 290 (.agg #[iv b.1,iv b.2])]) ∧ Below w.heap.size w w'
  clear HE hb0 hB HM HI HF
  rcases hw.out with tk | ⟨tk,tw⟩
  ·
   clear hw HW
   go_enter Tryz.func296,Tryz.ntmps296
   go_upto_region 1 with fail
   generalize w.alloc (.cells (exA e.k e.p e.o e.v e.s (.slice am e.m.length cm) e.r e.b1 e.b2 e.b3 e.b4 (.slice an e.ns.length cn) (.slice ao n cap)) 28) = w1 at *
   have x0:=(zaa q 0).trans rfl
   have x4:=(zaa q 4).trans rfl
   have x12:=(zaa q 12).trans rfl
   go_wp2_with fail
   refine (HT _ B).mono ?_
   rintro x w2 ⟨⟨v,rfl,_⟩,b2⟩
   go_wp2_with fail
   go_ret2
   exact ⟨rfl,B.trans (b2.mono B.size)⟩
  clear hw
  simp only [tw] at HW
  clear tw
  go_enter Tryz.func296,Tryz.ntmps296
  go_upto_region 1 with fail
  generalize w.alloc (.cells (exA e.k e.p e.o e.v e.s (.slice am e.m.length cm) e.r e.b1 e.b2 e.b3 e.b4 (.slice an e.ns.length cn) (.slice ao n cap)) 28) = w1 at *
  have x0:=(zaa q 0).trans rfl
  have x4:=(zaa q 4).trans rfl
  have x12:=(zaa q 12).trans rfl
  go_wp2_with fail
  refine (HW _).mono ?_
  rintro x w9 ⟨rfl,rfl⟩
  go_wp2_with fail
  refine (HT _ B).mono ?_
  rintro x w2 ⟨⟨v,rfl,_⟩,b2⟩
  go_wp2_with fail
  go_ret2
  exact ⟨rfl,B.trans (b2.mono B.size)⟩
 | none=>
  rw [hB] at HE
  dsimp only at HE
  have HT2:∀ W,Below w.heap.size w W → Calls Tryz.prog 341 #[.slice ao n cap] W fun x w'=>(∃ at' ct,x = .returned (.tuple #[.slice at' n ct,.nilIface]) ∧ Sl w' W.heap.size (.slice at' n ct) (kt e.ks).length ((kt e.ks).map iv)) ∧ Below W.heap.size W w':=fun W hW=>(HT W hW).mono (by
   rintro x w2 ⟨⟨v,rfl,hv⟩,b2⟩
   have ho:=OwnI.sl (hv hB)
   obtain ⟨at',ct,rfl,_⟩:=id ho
   rw [hkl] at ho ⊢
   exact ⟨⟨at',ct,by rw [hB];rfl,ho⟩,b2⟩)
  clear HT
  cases hm:misO e.k e.p e.b3 e.b4 e.s (e.ks.map (·.p)) (kt e.ks) with
  | some b=>
   obtain ⟨hf,hb9⟩:=fit_some e (kt e.ks) b hm
   rw [HE,hf]
   simp only [hm,fltV] at HM
   show Calls _ _ _ _ fun x w'=>x = .returned (.tuple #[iv 0,fltV (if b.2 = 0 then none else some (b.1,b.2))]) ∧ Below w.heap.size w w'
   rw [if_neg (by rw [hb9];decide)]
   show Calls _ _ _ _ fun x w'=>x = .returned (.tuple #[iv 0,.iface 290 (.agg #[iv b.1,iv b.2])]) ∧ Below w.heap.size w w'
   clear HE hf hb9 hm hB HI HF hkl
   rcases hw.out with tk | ⟨tk,tw⟩
   ·
    clear hw HW
    go_enter Tryz.func296,Tryz.ntmps296
    go_upto_region 1 with fail
    generalize w.alloc (.cells (exA e.k e.p e.o e.v e.s (.slice am e.m.length cm) e.r e.b1 e.b2 e.b3 e.b4 (.slice an e.ns.length cn) (.slice ao n cap)) 28) = w1 at *
    have x0:=(zaa q 0).trans rfl
    have x4:=(zaa q 4).trans rfl
    have x12:=(zaa q 12).trans rfl
    go_wp2_with fail
    refine (HT2 _ B).mono ?_
    rintro x w2 ⟨⟨at',ct,rfl,sl⟩,b2⟩
    have q2:=zab b2 q
    have q0:=zac w2 (.cells zN 332)
    have Ba:=bal (Below.refl w2.heap.size w2) (.cells zN 332)
    go_upto_region 6 with fail
    go_wp2_with (first | (refine zaj rfl 28 _ rfl w.heap.size _ 28 rfl q2 _ Tryz.underlying28 rfl 13 zae rfl ?_) | (refine zad rfl 332 _ _ rfl w2.heap.size _ rfl rfl zN 332 q0 14 zco rfl (rowNt _ _ _ _ _ _ _ _ _ _ _ _ _ _ _ _ _ _ _ _ _ _) ?_;intro w3 q3 o3 z3;clear z3;have b3:=((Off.of Ba []).trans o3 (by simp)).below (by simp)) | (refine zaj rfl 332 _ rfl w2.heap.size _ 332 rfl q3 _ Tryz.underlying332 rfl 14 zco rfl ?_))
    have B3:=B.trans ((b2.trans (b3.mono b2.size)).mono B.size)
    refine (HM _ _ B3 _ _ (sl.later b3)).mono ?_
    rintro x w4 ⟨rfl,b4⟩
    have B4:=B3.trans (b4.mono B3.size)
    go_wp2_with fail
    go_ret2
    exact ⟨rfl,B4⟩
   clear hw
   simp only [tw] at HW
   clear tw
   go_enter Tryz.func296,Tryz.ntmps296
   go_upto_region 1 with fail
   generalize w.alloc (.cells (exA e.k e.p e.o e.v e.s (.slice am e.m.length cm) e.r e.b1 e.b2 e.b3 e.b4 (.slice an e.ns.length cn) (.slice ao n cap)) 28) = w1 at *
   have x0:=(zaa q 0).trans rfl
   have x4:=(zaa q 4).trans rfl
   have x12:=(zaa q 12).trans rfl
   go_wp2_with fail
   refine (HW _).mono ?_
   rintro x w9 ⟨rfl,rfl⟩
   go_wp2_with fail
   refine (HT2 _ B).mono ?_
   rintro x w2 ⟨⟨at',ct,rfl,sl⟩,b2⟩
   have q2:=zab b2 q
   have q0:=zac w2 (.cells zN 332)
   have Ba:=bal (Below.refl w2.heap.size w2) (.cells zN 332)
   go_upto_region 6 with fail
   go_wp2_with (first | (refine zaj rfl 28 _ rfl w.heap.size _ 28 rfl q2 _ Tryz.underlying28 rfl 13 zae rfl ?_) | (refine zad rfl 332 _ _ rfl w2.heap.size _ rfl rfl zN 332 q0 14 zco rfl (rowNt _ _ _ _ _ _ _ _ _ _ _ _ _ _ _ _ _ _ _ _ _ _) ?_;intro w3 q3 o3 z3;clear z3;have b3:=((Off.of Ba []).trans o3 (by simp)).below (by simp)) | (refine zaj rfl 332 _ rfl w2.heap.size _ 332 rfl q3 _ Tryz.underlying332 rfl 14 zco rfl ?_))
   have B3:=B.trans ((b2.trans (b3.mono b2.size)).mono B.size)
   refine (HM _ _ B3 _ _ (sl.later b3)).mono ?_
   rintro x w4 ⟨rfl,b4⟩
   have B4:=B3.trans (b4.mono B3.size)
   go_wp2_with fail
   go_ret2
   exact ⟨rfl,B4⟩
  | none=>
   have hf:=fit_none e (kt e.ks) hm
   rw [HE,hf]
   simp only [hm,fltV] at HM
   show Calls _ _ _ _ fun x w'=>x = .returned (.tuple #[iv (isT e.k e.r (kt e.ks)),.nilIface]) ∧ Below w.heap.size w w'
   clear HE hf hm hB HF hkl
   rcases hw.out with tk | ⟨tk,tw⟩
   ·
    clear hw HW
    go_enter Tryz.func296,Tryz.ntmps296
    go_upto_region 1 with fail
    generalize w.alloc (.cells (exA e.k e.p e.o e.v e.s (.slice am e.m.length cm) e.r e.b1 e.b2 e.b3 e.b4 (.slice an e.ns.length cn) (.slice ao n cap)) 28) = w1 at *
    have x0:=(zaa q 0).trans rfl
    have x4:=(zaa q 4).trans rfl
    have x12:=(zaa q 12).trans rfl
    go_wp2_with fail
    refine (HT2 _ B).mono ?_
    rintro x w2 ⟨⟨at',ct,rfl,sl⟩,b2⟩
    have q2:=zab b2 q
    have q0:=zac w2 (.cells zN 332)
    have Ba:=bal (Below.refl w2.heap.size w2) (.cells zN 332)
    go_upto_region 6 with fail
    go_wp2_with (first | (refine zaj rfl 28 _ rfl w.heap.size _ 28 rfl q2 _ Tryz.underlying28 rfl 13 zae rfl ?_) | (refine zad rfl 332 _ _ rfl w2.heap.size _ rfl rfl zN 332 q0 14 zco rfl (rowNt _ _ _ _ _ _ _ _ _ _ _ _ _ _ _ _ _ _ _ _ _ _) ?_;intro w3 q3 o3 z3;clear z3;have b3:=((Off.of Ba []).trans o3 (by simp)).below (by simp)) | (refine zaj rfl 332 _ rfl w2.heap.size _ 332 rfl q3 _ Tryz.underlying332 rfl 14 zco rfl ?_))
    have B3:=B.trans ((b2.trans (b3.mono b2.size)).mono B.size)
    refine (HM _ _ B3 _ _ (sl.later b3)).mono ?_
    rintro x w4 ⟨rfl,b4⟩
    have B4:=B3.trans (b4.mono B3.size)
    have q4:=zab b4 q3
    go_wp2_with (refine zaj rfl 332 _ rfl w2.heap.size _ 332 rfl q4 _ Tryz.underlying332 rfl 14 zco rfl ?_)
    refine (HI _ _ _ _ ((sl.later b3).later b4)).mono ?_
    rintro x w5 ⟨rfl,b5⟩
    go_wp2_with fail
    go_ret2
    exact ⟨rfl,B4.trans (b5.mono B4.size)⟩
   clear hw
   simp only [tw] at HW
   clear tw
   go_enter Tryz.func296,Tryz.ntmps296
   go_upto_region 1 with fail
   generalize w.alloc (.cells (exA e.k e.p e.o e.v e.s (.slice am e.m.length cm) e.r e.b1 e.b2 e.b3 e.b4 (.slice an e.ns.length cn) (.slice ao n cap)) 28) = w1 at *
   have x0:=(zaa q 0).trans rfl
   have x4:=(zaa q 4).trans rfl
   have x12:=(zaa q 12).trans rfl
   go_wp2_with fail
   refine (HW _).mono ?_
   rintro x w9 ⟨rfl,rfl⟩
   go_wp2_with fail
   refine (HT2 _ B).mono ?_
   rintro x w2 ⟨⟨at',ct,rfl,sl⟩,b2⟩
   have q2:=zab b2 q
   have q0:=zac w2 (.cells zN 332)
   have Ba:=bal (Below.refl w2.heap.size w2) (.cells zN 332)
   go_upto_region 6 with fail
   go_wp2_with (first | (refine zaj rfl 28 _ rfl w.heap.size _ 28 rfl q2 _ Tryz.underlying28 rfl 13 zae rfl ?_) | (refine zad rfl 332 _ _ rfl w2.heap.size _ rfl rfl zN 332 q0 14 zco rfl (rowNt _ _ _ _ _ _ _ _ _ _ _ _ _ _ _ _ _ _ _ _ _ _) ?_;intro w3 q3 o3 z3;clear z3;have b3:=((Off.of Ba []).trans o3 (by simp)).below (by simp)) | (refine zaj rfl 332 _ rfl w2.heap.size _ 332 rfl q3 _ Tryz.underlying332 rfl 14 zco rfl ?_))
   have B3:=B.trans ((b2.trans (b3.mono b2.size)).mono B.size)
   refine (HM _ _ B3 _ _ (sl.later b3)).mono ?_
   rintro x w4 ⟨rfl,b4⟩
   have B4:=B3.trans (b4.mono B3.size)
   have q4:=zab b4 q3
   go_wp2_with (refine zaj rfl 332 _ rfl w2.heap.size _ 332 rfl q4 _ Tryz.underlying332 rfl 14 zco rfl ?_)
   refine (HI _ _ _ _ ((sl.later b3).later b4)).mono ?_
   rintro x w5 ⟨rfl,b5⟩
   go_wp2_with fail
   go_ret2
   exact ⟨rfl,B4.trans (b5.mono B4.size)⟩
open Go.RowKit Go.Extern.Stop Go.Stop Go.Extern
theorem as_none (t:Value) (w:World):Calls Tryz.prog 297 #[.nilIface,t] w fun e w'=>e = .returned (.bool false) ∧ w' = w:=by
 go_enter Tryz.func297,Tryz.ntmps297
 go_wp2
 go_ret
 exact ⟨rfl,rfl⟩
/-! ### The model's own words on types and values, at this program's numbers -/
abbrev rt9 (t:TypeId):Value:=.iface 376 (.agg #[.pointer (some ⟨9,t,none⟩)])
abbrev rv9 (t:TypeId) (a:Addr) (f:Int):Value:=.agg #[.pointer (some ⟨9,t,none⟩),.pointer (some a),.int .u64 f]
abbrev fv9 (p q:Int):Value:=.agg #[.int .i64 p,.int .i64 q]
theorem zpc (t:Addr) (w:World):(ReflectliteValue.unpack (.iface 292 (.pointer (some t)))).run Tryz.prog w = .ok (rv9 292 ⟨w.heap.size,0,none⟩ 150) (w.alloc (.cells #[.pointer (some t)] 292)):=by kernel_rfl
theorem as_type (a : Addr) (w : World) : (ReflectliteValue.methodAny (ReflectliteValue.valueError "reflectlite.Value.Type" 0) (fun t _ _ _ => ReflectliteType.toType t) #[rv9 292 a 150]).run Tryz.prog w = .ok (rt9 292) w := by kernel_rfl
theorem as_mKind (h : Value) (w : World) : (Go.method 537 376 (.agg #[h]) "Kind").run Tryz.prog w = .ok (447, h) w := by kernel_rfl
theorem as_mElem (h : Value) (w : World) : (Go.method 537 376 (.agg #[h]) "Elem").run Tryz.prog w = .ok (461, .agg #[h]) w := by kernel_rfl
theorem as_mImpl (h : Value) (w : World) : (Go.method 537 376 (.agg #[h]) "Implements").run Tryz.prog w = .ok (462, .agg #[h]) w := by kernel_rfl
theorem zpd (h : Value) (w : World) : (Go.method 537 376 (.agg #[h]) "AssignableTo").run Tryz.prog w = .ok (459, .agg #[h]) w := by kernel_rfl
theorem as_kindP (w:World):((ReflectliteType.abiMethod fun t=>(fun a:Nat=>Value.int IntKind.u8 (a:Int)) <$> Rtype.kind t) #[.pointer (some ⟨9,292,none⟩)]).run Tryz.prog w = .ok (.int .u8 22) w:=by kernel_rfl
theorem as_kindF (w:World):((ReflectliteType.abiMethod fun t=>(fun a:Nat=>Value.int IntKind.u8 (a:Int)) <$> Rtype.kind t) #[.pointer (some ⟨9,290,none⟩)]).run Tryz.prog w = .ok (.int .u8 25) w:=by kernel_rfl
theorem as_elem (w:World):(ReflectliteType.method ReflectliteType.elem #[.agg #[.pointer (some ⟨9,292,none⟩)]]).run Tryz.prog w = .ok (rt9 290) w:=by kernel_rfl
theorem as_impl (w : World) : (ReflectliteType.relation "Implements" ReflectliteType.implements_ #[.agg #[.pointer (some ⟨9, 290, none⟩)], rt9 106]).run Tryz.prog w = .ok (.bool true) w := by kernel_rfl
theorem as_typeOf (p q:Int) (w:World):(ReflectliteType.typeOf #[.iface 290 (fv9 p q)]).run Tryz.prog w = .ok (rt9 290) w:=by kernel_rfl
theorem as_assign (w : World) : (ReflectliteType.relation "AssignableTo" ReflectliteType.assignableTo #[.agg #[.pointer (some ⟨9, 290, none⟩)], rt9 290]).run Tryz.prog w = .ok (.bool true) w := by kernel_rfl
theorem zmb (p q:Int) (w:World):(ReflectliteValue.unpack (.iface 290 (fv9 p q))).run Tryz.prog w = .ok (rv9 290 ⟨w.heap.size,0,none⟩ 153) (w.alloc (.cells #[.int .i64 p,.int .i64 q] 290)):=by kernel_rfl
/-! ### Those that read or write memory -/
theorem zjd (z:Sem Value) (f:TypeId → Addr → Nat → Nat → Sem Value) (v:Value) :
  ReflectliteValue.method z f #[v] = (do match ← ReflectliteValue.parts v with | none=>z | some (t,a,fl)=>f t a fl (fl % 32)):=rfl
theorem zkj (a:Addr) (w:World):(ReflectliteValue.parts (rv9 292 a 150)).run Tryz.prog w = .ok (some (292,a,150)) w:=by kernel_rfl
theorem as_isNil (a p:Addr) (W:World) (ha:W.cell? a = some (.pointer (some p))) :
  (ReflectliteValue.method (ReflectliteValue.valueError "reflectlite.Value.IsNil" 0) ReflectliteValue.isNil #[rv9 292 a 150]).run Tryz.prog W = .ok (.bool false) W := by
 rw [zjd]
 simp only [Sem.run_bind,zkj,Result.andThen]
 simp [ReflectliteValue.isNil,loadVar,isAgg,underlying,Tryz.underlying292,ha,Result.andThen]
theorem as_elemP (w:World):(Rtype.elem? 292).run Tryz.prog w = .ok (some 290) w:=by kernel_rfl
theorem as_mk (p:Addr) (w:World):(ReflectliteValue.mk 290 p ReflectliteValue.flagAddr).run Tryz.prog w = .ok (rv9 290 p 409) w:=by kernel_rfl
theorem as_elemV (a p:Addr) (W:World) (ha:W.cell? a = some (.pointer (some p))) :
  (ReflectliteValue.method (ReflectliteValue.valueError "reflectlite.Value.Elem" 0) ReflectliteValue.elem #[rv9 292 a 150]).run Tryz.prog W = .ok (rv9 290 p 409) W := by
 rw [zjd]
 simp only [Sem.run_bind,zkj,Result.andThen]
 simp [ReflectliteValue.elem,loadVar,isAgg,underlying,Tryz.underlying292,ha,Result.andThen,as_elemP,as_mk]
theorem rl_set (v x:Value):ReflectliteValue.set #[v,x] = (do
  let (some (dst,a,fl),some (src,b,_)):=(← ReflectliteValue.parts v,← ReflectliteValue.parts x)
   | unsupported (.noEntry "extern/(internal/reflectlite.Value).Set.zeroValue")
  if fl / ReflectliteValue.flagAddr % 2 == 0 then unsupported (.noEntry "extern/(internal/reflectlite.Value).Set.unaddressable")
  let val ← loadVar src b
  if ← Rtype.directlyAssignable dst src then storeVar dst a val
  else if ← Rtype.implements dst src then
   if (← Rtype.kind src) == 20 then
    match val with
    | .nilIface => unsupported (.noEntry "extern/reflectlite: a nil value of one interface type handed on as a value of another")
    | _=>storeVar dst a val
   else storeVar dst a (.iface src val)
  else panicString ("reflectlite.Set: value of type " ++ (← Rtype.spelt src) ++ " is not assignable to type " ++ (← Rtype.spelt dst))
  pure (.tuple #[])):=rfl
theorem as_partsA (a:Addr) (w:World):(ReflectliteValue.parts (rv9 290 a 409)).run Tryz.prog w = .ok (some (290,a,409)) w:=by kernel_rfl
theorem as_partsF (a:Addr) (w:World):(ReflectliteValue.parts (rv9 290 a 153)).run Tryz.prog w = .ok (some (290,a,153)) w:=by kernel_rfl
theorem as_direct (w:World):(Rtype.directlyAssignable 290 290).run Tryz.prog w = .ok true w:=by kernel_rfl
theorem inf99:(Tryz.prog.info? 290).map (·.size) = some 2:=by kernel_rfl
theorem as_set (tb b:Nat) (p q:Int) (old:Array Value) (W:World) (hb:W.heap[b]? = some (.cells #[.int .i64 p,.int .i64 q] 290)) (ht:W.heap[tb]? = some (.cells old 290)) (ho:old.size = 2) :
  (ReflectliteValue.set #[rv9 290 ⟨tb,0,none⟩ 409,rv9 290 ⟨b,0,none⟩ 153]).run Tryz.prog W = .ok (.tuple #[]) (W.setRow tb #[.int .i64 p,.int .i64 q]):=by
 have e1:(loadVar 290 ⟨b,0,none⟩).run Tryz.prog W = .ok (fv9 p q) W:=run_loadVar_row W b 290 290 _ (0,0) _ hb Tryz.underlying290 (by simp) inf99
 have e2:(storeVar 290 ⟨tb,0,none⟩ (fv9 p q)).run Tryz.prog W = .ok () (W.setRow tb #[.int .i64 p,.int .i64 q]):=run_storeVar_row W tb 290 290 old #[.int .i64 p,.int .i64 q] ht inf99 ho (by simp [Value.oneCell'])
 rw [rl_set]
 simp only [Sem.run_bind,as_partsA,as_partsF,Result.andThen]
 simp [ReflectliteValue.flagAddr,e1,Result.andThen,as_direct,e2]
def Et (w:World):Prop:=w.cell? ⟨4,0,none⟩ = some (rt9 106)
theorem Et.later {w w':World} (h:Et w) (hb:Below w.heap.size w w'):Et w':=(hb.cell (p:=⟨4,0,none⟩) (World.block_lt_of_cell? _ _ h)).trans h
theorem as_hit (p q:Int) (tb:Nat) (old:Array Value) (w:World) (hg:Et w) (ht:w.heap[tb]? = some (.cells old 290)) (ho:old.size = 2) :
  Calls Tryz.prog 297 #[.iface 290 (fv9 p q),.iface 292 (.pointer (some ⟨tb,0,none⟩))] w fun ev w'=>ev = .returned (.bool true) ∧ w'.heap[tb]? = some (.cells #[.int .i64 p,.int .i64 q] 290) ∧ Off [tb] w w':=by
 have h90:=@run_callFunc_extern Tryz.prog 344 _ (fun args=>ReflectliteValue.unpack (args.getD 0 (.tuple #[]))) Tryz.func344 (by kernel_rfl) (by kernel_rfl) (by kernel_rfl) (by kernel_rfl)
 have h91 := @run_callFunc_extern Tryz.prog 345 _ (ReflectliteValue.methodAny (ReflectliteValue.valueError "reflectlite.Value.Type" 0) (fun t _ _ _ => ReflectliteType.toType t)) Tryz.func345 (by kernel_rfl) (by kernel_rfl) (by kernel_rfl) (by kernel_rfl)
 have h92 := @run_callFunc_extern Tryz.prog 346 _ (ReflectliteValue.method (ReflectliteValue.valueError "reflectlite.Value.IsNil" 0) ReflectliteValue.isNil) Tryz.func346 (by kernel_rfl) (by kernel_rfl) (by kernel_rfl) (by kernel_rfl)
 have h317:=@run_callFunc_extern Tryz.prog 447 _ (ReflectliteType.abiMethod fun t=>do pure (.int .u8 (← Rtype.kind t))) Tryz.func447 (by kernel_rfl) (by kernel_rfl) (by kernel_rfl) (by kernel_rfl)
 have h327:=@run_callFunc_extern Tryz.prog 461 _ (ReflectliteType.method ReflectliteType.elem) Tryz.func461 (by kernel_rfl) (by kernel_rfl) (by kernel_rfl) (by kernel_rfl)
 have h328 := @run_callFunc_extern Tryz.prog 462 _ (ReflectliteType.relation "Implements" ReflectliteType.implements_) Tryz.func462 (by kernel_rfl) (by kernel_rfl) (by kernel_rfl) (by kernel_rfl)
 have h156:=@run_callFunc_extern Tryz.prog 382 _ ReflectliteType.typeOf Tryz.func382 (by kernel_rfl) (by kernel_rfl) (by kernel_rfl) (by kernel_rfl)
 have h325 := @run_callFunc_extern Tryz.prog 459 _ (ReflectliteType.relation "AssignableTo" ReflectliteType.assignableTo) Tryz.func459 (by kernel_rfl) (by kernel_rfl) (by kernel_rfl) (by kernel_rfl)
 have h157 := @run_callFunc_extern Tryz.prog 383 _ (ReflectliteValue.method (ReflectliteValue.valueError "reflectlite.Value.Elem" 0) ReflectliteValue.elem) Tryz.func383 (by kernel_rfl) (by kernel_rfl) (by kernel_rfl) (by kernel_rfl)
 have h158:=@run_callFunc_extern Tryz.prog 384 _ ReflectliteValue.set Tryz.func384 (by kernel_rfl) (by kernel_rfl) (by kernel_rfl) (by kernel_rfl)
 have tO:=as_typeOf p q
 have mA:=zpd
 have a25:=as_assign
 have v25:=zmb p q
 have f6:=zpc
 have f7:=as_type
 have mK:=as_mKind
 have mE:=as_mElem
 have mI:=as_mImpl
 have k27:=as_kindP
 have k25:=as_kindF
 have e27:=as_elem
 have i25:=as_impl
 have htl:=zah ht
 obtain ⟨w1,hw1⟩:∃ x,x = w.alloc (.cells #[.pointer (some ⟨tb,0,none⟩)] 292):=⟨_,rfl⟩
 have q1:w1.heap[w.heap.size]? = some (.cells #[.pointer (some ⟨tb,0,none⟩)] 292):=by rw [hw1];exact zac _ _
 have n8:=as_isNil ⟨w.heap.size,0,none⟩ ⟨tb,0,none⟩ ((w.alloc (.cells #[.pointer (some ⟨tb,0,none⟩)] 292)).alloc (.cells #[.pointer (some ⟨9,292,none⟩),.pointer (some ⟨w.heap.size,0,none⟩),.int .u64 150] 337)) (by simp)
 have hlt:4 < w.heap.size:=World.block_lt_of_cell? _ _ hg
 have hg0:w.cell? ⟨4,0,none⟩ = some (rt9 106):=hg
 have hg2:((w.alloc (.cells #[.pointer (some ⟨tb,0,none⟩)] 292)).alloc (.cells #[.pointer (some ⟨9,292,none⟩),.pointer (some ⟨w.heap.size,0,none⟩),.int .u64 150] 337)).cell? ⟨4,0,none⟩ = some (rt9 106):=by
  rw [World.cell?_alloc_lt _ _ ⟨4,0,none⟩ (by simp;omega),World.cell?_alloc_lt _ _ ⟨4,0,none⟩ hlt];exact hg
 have el:=as_elemV ⟨w.heap.size,0,none⟩ ⟨tb,0,none⟩ (((w.alloc (.cells #[.pointer (some ⟨tb,0,none⟩)] 292)).alloc (.cells #[.pointer (some ⟨9,292,none⟩),.pointer (some ⟨w.heap.size,0,none⟩),.int .u64 150] 337)).alloc (.cells #[.pointer (some ⟨9,292,none⟩),.pointer (some ⟨w.heap.size,0,none⟩),.int .u64 150] 337)) (by rw [World.cell?_alloc_lt _ _ ⟨w.heap.size,0,none⟩ (by simp;omega)];simp)
 have st:=as_set tb (w.heap.size + 1 + 1 + 1) p q old ((((w.alloc (.cells #[.pointer (some ⟨tb,0,none⟩)] 292)).alloc (.cells #[.pointer (some ⟨9,292,none⟩),.pointer (some ⟨w.heap.size,0,none⟩),.int .u64 150] 337)).alloc (.cells #[.pointer (some ⟨9,292,none⟩),.pointer (some ⟨w.heap.size,0,none⟩),.int .u64 150] 337)).alloc (.cells #[.int .i64 p,.int .i64 q] 290))
  (by have:=zac (((w.alloc (.cells #[.pointer (some ⟨tb,0,none⟩)] 292)).alloc (.cells #[.pointer (some ⟨9,292,none⟩),.pointer (some ⟨w.heap.size,0,none⟩),.int .u64 150] 337)).alloc (.cells #[.pointer (some ⟨9,292,none⟩),.pointer (some ⟨w.heap.size,0,none⟩),.int .u64 150] 337)) (.cells #[.int .i64 p,.int .i64 q] 290);simpa using this)
  (zat (zat (zat (zat ht _) _) _) _) ho
 have fin:=zia (cs:=#[.int .i64 p,.int .i64 q]) (zat (zat (zat (zat ht (.cells #[.pointer (some ⟨tb,0,none⟩)] 292)) (.cells #[.pointer (some ⟨9,292,none⟩),.pointer (some ⟨w.heap.size,0,none⟩),.int .u64 150] 337)) (.cells #[.pointer (some ⟨9,292,none⟩),.pointer (some ⟨w.heap.size,0,none⟩),.int .u64 150] 337)) (.cells #[.int .i64 p,.int .i64 q] 290))
 have off:=((((Off.refl [tb] w).new (.cells #[.pointer (some ⟨tb,0,none⟩)] 292)).new (.cells #[.pointer (some ⟨9,292,none⟩),.pointer (some ⟨w.heap.size,0,none⟩),.int .u64 150] 337)).new (.cells #[.pointer (some ⟨9,292,none⟩),.pointer (some ⟨w.heap.size,0,none⟩),.int .u64 150] 337)).new (.cells #[.int .i64 p,.int .i64 q] 290) |>.then (zkw _ tb #[.int .i64 p,.int .i64 q])
 clear q1 hw1 w1
 go_enter Tryz.func297,Tryz.ntmps297
 go_wp2
 refine wp_loop_rounds 1 ?_
 rw [rounds_succ]
 go_wp2
 go_ret
 exact ⟨rfl,fin,off⟩
end Go.Proofs.YtjlaihekocjggaaGreatDoor
namespace Go.Proofs.YtjlaihekocjggaaGreatDoor
open Go.RowKit
def ofE (e:Ex):Ty:=if isE e = true then tyE e else (0,0,71)
theorem isE_snd {e:Ex} (h:isE e = true):sndE e = true:=by
 unfold isE at h
 rw [Bool.and_eq_true] at h
 exact h.2
abbrev tyV (o:Ty):Value:=.tuple #[iv o.1,iv o.2.1,iv o.2.2]
theorem of_any {P:Nat → Prop} {w:World} {e:Ex} {cs:Array Value} (h:TrP P w e cs) (hs:Sm e) (het:Et w):Calls Tryz.prog 248 #[.agg cs] w fun x w'=>x = .returned (tyV (ofE e)) ∧ Below w.heap.size w w':=by
 have row:=h.row
 have q:=zac w (.cells cs 28)
 have B:=bal (Below.refl w.heap.size w) (.cells cs 28)
 have HI:=fun W (hW:Below w.heap.size w W)=>isE_any (TrP.later h hW) hs
 cases hq:isE e with
 | false=>
  rw [show ofE e = (0,0,71) by unfold ofE;rw [if_neg (by simp [hq])]]
  simp only [hq] at HI
  clear hq h het
  go_enter Tryz.func248,Tryz.ntmps248
  go_upto_region 1 with fail
  generalize w.alloc (.cells cs 28) = w1 at *
  go_wp2_with (refine zaj rfl 28 _ rfl w.heap.size cs 28 rfl q _ Tryz.underlying28 rfl 13 zae row.1 ?_)
  refine (HI _ B).mono ?_
  rintro x w2 ⟨rfl,b2⟩
  go_wp2_with fail
  go_ret3
  exact ⟨rfl,B.trans (b2.mono B.size)⟩
 | true=>
  have hsn:=isE_snd hq
  have HT:=fun W (hW:Below w.heap.size w W)=>ty_ok e hs hsn W cs (TrP.later h hW)
  rw [show ofE e = tyE e by unfold ofE;rw [if_pos hq]]
  have hin:=tyE_in e
  generalize tyE e = o at *
  obtain ⟨o1,o2,o3⟩:=o
  dsimp only at hin HT
  simp only [hq] at HI
  have HET:Hid (Et w):=het
  clear hq h het hsn
  by_cases h0:o3 = 0
  ·
   subst h0
   obtain ⟨_,h2,_⟩ | ⟨_,h3⟩:=hin
   ·
    subst h2
    simp only [if_pos,fltV] at HT
    go_enter Tryz.func248,Tryz.ntmps248
    go_upto_region 1 with fail
    generalize w.alloc (.cells cs 28) = w1 at *
    go_wp2_with (refine zaj rfl 28 _ rfl w.heap.size cs 28 rfl q _ Tryz.underlying28 rfl 13 zae row.1 ?_)
    refine (HI _ B).mono ?_
    rintro x w2 ⟨rfl,b2⟩
    have B2:=B.trans (b2.mono B.size)
    have q2:=zab b2 q
    go_wp2_with (refine zaj rfl 28 _ rfl w.heap.size cs 28 rfl q2 _ Tryz.underlying28 rfl 13 zae row.1 ?_)
    refine (HT _ B2).mono ?_
    rintro x w3 ⟨rfl,b3⟩
    have B3:=B2.trans (b3.mono B2.size)
    go_wp2_with fail
    refine (as_none _ _).mono ?_
    rintro x w4 ⟨rfl,rfl⟩
    go_wp2_with fail
    go_ret3
    exact ⟨rfl,bal B3 _⟩
   exact absurd rfl h3
  obtain ⟨_,_,h2⟩ | ⟨h1,_⟩:=hin
  ·
   exact absurd h2 h0
  subst h1
  simp only [if_neg h0,fltV] at HT
  go_enter Tryz.func248,Tryz.ntmps248
  go_upto_region 1 with fail
  generalize w.alloc (.cells cs 28) = w1 at *
  go_wp2_with (refine zaj rfl 28 _ rfl w.heap.size cs 28 rfl q _ Tryz.underlying28 rfl 13 zae row.1 ?_)
  refine (HI _ B).mono ?_
  rintro x w2 ⟨rfl,b2⟩
  have B2:=B.trans (b2.mono B.size)
  have q2:=zab b2 q
  go_wp2_with (refine zaj rfl 28 _ rfl w.heap.size cs 28 rfl q2 _ Tryz.underlying28 rfl 13 zae row.1 ?_)
  refine (HT _ B2).mono ?_
  rintro x w3 ⟨rfl,b3⟩
  have B3:=B2.trans (b3.mono B2.size)
  have q4:=zac w3 (.cells #[iv 0,iv 0] 290)
  have B4:=bal B3 (.cells #[iv 0,iv 0] 290)
  go_upto_region 5 with fail
  have HE4:=HET.out.later B4
  generalize w3.alloc (.cells #[iv 0,iv 0] 290) = w4 at *
  go_wp2_with fail
  refine (as_hit o2 o3 w3.heap.size #[iv 0,iv 0] w4 HE4 q4 rfl).mono ?_
  rintro x w5 ⟨rfl,q5,o5⟩
  have x0:=(zaa q5 0).trans rfl
  have x1:=(zaa q5 1).trans rfl
  have B5:=((Off.of B4 []).trans o5 (by simp;have:=B3.size;omega)).below (by simp)
  have zz:=B5.size
  go_wp2_with fail
  go_quiet (fail)
  go_wp2_with fail
  go_ret3
  exact ⟨rfl,below_drewN B5 _⟩
theorem zmr {P:Nat → Prop} {w:World} {e:Ex} {cs:Array Value} (h:TrP P w e cs) (hs:Sm e) (het:Et w):Calls Tryz.prog 186 #[.agg cs] w fun x w'=>x = .returned (.tuple #[iv (ruE (ofE e) e).1,iv (ruE (ofE e) e).2]) ∧ Below w.heap.size w w':=by
 have row:=h.row
 obtain ⟨vm,vn,ao,cap,ec,_,_,_,_⟩:=h.parts
 have q:=zac w (.cells cs 28)
 have B:=bal (Below.refl w.heap.size w) (.cells cs 28)
 have HO:=fun W (hW:Below w.heap.size w W)=>of_any (TrP.later h hW) hs (het.later hW)
 have hx1:cs[1]? = some (iv e.p):=by rw [ec];rfl
 clear ec h het
 generalize ofE e = o at *
 obtain ⟨o1,o2,o3⟩:=o
 unfold ruE
 dsimp only at HO ⊢
 by_cases h0:o3 = 0
 ·
  subst h0
  rw [if_neg (by simp)]
  by_cases h1:o1 = 3
  ·
   subst h1
   rw [if_pos rfl]
   go_enter Tryz.func186,Tryz.ntmps186
   go_upto_region 1 with fail
   generalize w.alloc (.cells cs 28) = w1 at *
   go_wp2_with (refine zaj rfl 28 _ rfl w.heap.size cs 28 rfl q _ Tryz.underlying28 rfl 13 zae row.1 ?_)
   refine (HO _ B).mono ?_
   rintro x w2 ⟨rfl,b2⟩
   have x1:=(zaa (zab b2 q) 1).trans hx1
   go_wp2_with fail
   go_ret2
   exact ⟨rfl,B.trans (b2.mono B.size)⟩
  rw [if_neg h1]
  have t1:(o1 == 3) = false:=beq_eq_false_iff_ne.2 h1
  go_enter Tryz.func186,Tryz.ntmps186
  go_upto_region 1 with fail
  generalize w.alloc (.cells cs 28) = w1 at *
  go_wp2_with (refine zaj rfl 28 _ rfl w.heap.size cs 28 rfl q _ Tryz.underlying28 rfl 13 zae row.1 ?_)
  refine (HO _ B).mono ?_
  rintro x w2 ⟨rfl,b2⟩
  go_wp2_with fail
  go_ret2
  exact ⟨rfl,B.trans (b2.mono B.size)⟩
 rw [if_pos h0]
 have t0:(o3 != 0) = true:=by rw [bne_iff_ne];exact h0
 have t1:(o3 == 0) = false:=beq_eq_false_iff_ne.2 h0
 go_enter Tryz.func186,Tryz.ntmps186
 go_upto_region 1 with fail
 generalize w.alloc (.cells cs 28) = w1 at *
 go_wp2_with (refine zaj rfl 28 _ rfl w.heap.size cs 28 rfl q _ Tryz.underlying28 rfl 13 zae row.1 ?_)
 refine (HO _ B).mono ?_
 rintro x w2 ⟨rfl,b2⟩
 go_wp2_with fail
 go_ret2
 exact ⟨rfl,B.trans (b2.mono B.size)⟩
end Go.Proofs.YtjlaihekocjggaaGreatDoor
