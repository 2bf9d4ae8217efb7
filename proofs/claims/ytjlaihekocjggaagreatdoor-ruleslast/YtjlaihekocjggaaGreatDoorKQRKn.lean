/- Texts that the others lean on. -/
import Derived.Test.YtjlaihekocjggaaGreatDoorKRPr
set_option maxHeartbeats 16000000
namespace Go.Proofs.YtjlaihekocjggaaGreatDoor
open Go.RowKit
/-! ### Reckoned -/
def exC (t:Str):Option (Int × Int):=
 if psE t = 0 then
  (match evE szG 60 (psX t) with
  | none=>none
  | some n=>match evE sndG 60 (psX t) with
   | none=>none
   | some s=>match evE tyG 60 (psX t) with
    | none=>none
    | some o=>some (ruE (if (decide (n ≤ 700) && s) = true then o else (0,0,71)) (psX t)))
 else some (psA t,psE t)
theorem exC_ok {t:Str} {v:Int × Int} (h:exC t = some v):exW t = v:=by
 unfold exC at h
 unfold exW
 split at h
 ·
  next hz=>
  rw [if_pos hz]
  cases h1:evE szG 60 (psX t) with
  | none=>rw [h1] at h;cases h
  | some n=>
   rw [h1] at h
   dsimp only at h
   cases h2:evE sndG 60 (psX t) with
   | none=>rw [h2] at h;cases h
   | some s=>
    rw [h2] at h
    dsimp only at h
    cases h3:evE tyG 60 (psX t) with
    | none=>rw [h3] at h;cases h
    | some o=>
     rw [h3] at h
     have e1:sz (psX t) = n:=zgh szG 60 _ _ h1
     have e2:sndE (psX t) = s:=zgh sndG 60 _ _ h2
     have e3:tyE (psX t) = o:=zgh tyG 60 _ _ h3
     have e4:ofE (psX t) = if (decide (n ≤ 700) && s) = true then o else (0,0,71):=by
      unfold ofE isE
      rw [e1,e2,e3]
     rw [e4]
     exact Option.some.inj h
 next hz=>
 rw [if_neg hz]
 exact Option.some.inj h
def exX (t:Str):Int × Int:=match exC t with
 | some v=>v
 | none=>exW t
theorem exX_eq:exX = exW:=by
 funext t
 unfold exX
 split
 ·
  next v h=>exact (exC_ok h).symm
 rfl
def stRx (ex:Str → Int × Int) (c:Cf) (l:Str):Cf ⊕ (Int × Int):=
 if rcOk l = true then
  match c.gs.getLast? with
  | none=>.inr (0,12)
  | some g=>if g.rs.length = 8 then .inr (0,32) else if (ex (rcX l)).2 = 0 then .inl ⟨c.rl,c.gs.dropLast ++ [⟨g.name,g.ev,g.rs ++ [rcRu l]⟩]⟩
   else .inr (wI ((l.length:Int) - (rcX l).length + (ex (rcX l)).1),(ex (rcX l)).2)
 else .inr (0,12)
def stCx (ex:Str → Int × Int) (c:Cf) (l:Str):Cf ⊕ (Int × Int):=
 if l.head?.getD 35 = 35 then .inl c
 else if wrd l = [103,114,111,117,112] then stG c l
 else if wrd l = [114,101,99,111,114,100] then stRx ex c l
 else stL c l
def runX (ex:Str → Int × Int):Cf → Int → List Str → Cf × Int × Int
 | c,_,[]=>(c,0,0)
 | c,b,l :: ls=>match stCx ex c l with
  | .inl c'=>runX ex c' (b + ((l.length:Int) + 1)) ls
  | .inr x=>(cf0,wI (b + x.1),x.2)
theorem runX_eq:∀ (ls:List Str) (c:Cf) (b:Int),runX exW c b ls = runF c b ls
 | [],c,b=>rfl
 | l :: ls,c,b=>by
  unfold runX runF
  have e:stCx exW c l = stC c l:=rfl
  rw [e]
  cases stC c l with
  | inl c'=>exact runX_eq ls c' _
  | inr x=>rfl
def pX (s:Str):Cf × Int × Int:=if 3000 < s.length then (cf0,0,11) else runX exX cf0 0 (sp 10 s)
theorem pX_eq (s:Str):pX s = pF s:=by
 unfold pX pF
 rw [exX_eq,runX_eq]
/-! ### The file that every law reads first -/
def K1:Str:=[100,114,111,112,32,106,111,98,32,61,32,34,120,34,10,103,114,111,117,112,32,97,32,101,118,101,114,121,32,50,10,114,101,99,111,114,100,32,114,123,98,61,34,99,34,125,32,61,32,115,117,109,32,40,120,41,10]
def K2:Str:=[103,114,111,117,112,32,97,32,101,118,101,114,121,32,50,10,114,101,99,111,114,100,32,114,32,61,32,120,91,53,116,93,10]
def X1:Str:=[115,117,109,32,40,120,41]
def KR:Ru:=⟨[114],psX X1,[([98],[99])]⟩
def KG:Gr:=⟨[97],2,[KR]⟩
def KC:Cf:=⟨[⟨2,⟨[106,111,98],1,[120]⟩,[],[]⟩],[KG]⟩
theorem kn1:pF K1 = (KC,0,0):=by
 rw [← pX_eq]
 kernel_rfl
theorem kn2:(pF K2).2 = (27,90):=by
 rw [← pX_eq]
 kernel_rfl
theorem kX:exW X1 = (0,0):=exC_ok (by kernel_rfl)
theorem kE0:psE X1 = 0:=by kernel_rfl
theorem kIs1:isE (psX X1) = true:=by
 unfold isE
 rw [show sz (psX X1) = 2 from zgh szG 20 _ _ (by kernel_rfl),show sndE (psX X1) = true from zgh sndG 20 _ _ (by kernel_rfl)]
 rfl
theorem kPr1:pr9 (psX X1) = X1:=zgh prG 20 _ _ (by kernel_rfl)
theorem kRu:isRuB KR = true:=by
 have h:(ruE (ofE (psX X1)) (psX X1)) = (0,0):=by
  have:=kX
  unfold exW at this
  rw [if_pos kE0] at this
  exact this
 unfold isRuB
 show (_ && decide ((ruE (ofE (psX X1)) (psX X1)).2 = 0)) = true
 rw [h]
 kernel_rfl
theorem kCf:isCf KC = true:=by
 have h1:[KR].all isRuB = true:=by simp [kRu]
 have h2:isGrB KG = true:=by
  unfold isGrB
  show (_ && [KR].all isRuB) = true
  rw [h1]
  kernel_rfl
 have h3:[KG].all isGrB = true:=by simp [h2]
 unfold isCf
 show ((_ && [KG].all isGrB) && _) = true
 rw [h3]
 kernel_rfl
theorem kPrC:prC KC = K1:=by
 unfold prC
 rw [if_pos kCf]
 have h:lnR KR = [114,101,99,111,114,100,32,114,123,98,61,34,99,34,125,32,61,32,115,117,109,32,40,120,41]:=by
  unfold lnR
  show _ ++ prE (psX X1) = _
  unfold prE
  rw [if_pos kIs1,kPr1]
  kernel_rfl
 have h2:lnG KG = [[103,114,111,117,112,32,97,32,101,118,101,114,121,32,50],[114,101,99,111,114,100,32,114,123,98,61,34,99,34,125,32,61,32,115,117,109,32,40,120,41]]:=by
  unfold lnG
  show _ :: [lnR KR] = _
  rw [h]
  kernel_rfl
 unfold lnC
 show ended (_ ++ [KG].flatMap lnG) = _
 rw [List.flatMap_cons,List.flatMap_nil,h2]
 kernel_rfl
theorem kFit:FitC KC:=by
 refine ⟨fun r hr=>?_,by decide,by decide,fun g hg=>?_⟩
 ·
  have hr:r ∈ [(⟨2,⟨[106,111,98],1,[120]⟩,[],[]⟩:Rl)]:=hr
  simp at hr
  subst hr
  exact ⟨by unfold Big;decide,by unfold Big;decide,by unfold Big;decide,by unfold Big;decide⟩
 have hg:g ∈ [KG]:=hg
 simp at hg
 subst hg
 refine ⟨by show List.length [97] ≤ _;decide,by decide,by decide,by decide,fun r hr=>?_⟩
 have hr:r ∈ [KR]:=hr
 simp at hr
 subst hr
 exact ⟨by show List.length [114] ≤ _;decide,fun p hp=>by have hp:p ∈ [([98],[99])]:=hp;simp at hp;subst hp;decide,by decide,(ps_sm X1).1,(ps_sm X1).2,by show (pr9 (psX X1)).length ≤ _;rw [kPr1];decide⟩
theorem CfP.one {P:Nat → Prop} {w:World} {c:Cf} {cs:Array Value} {g:Gr} {r:Ru} (h:CfP P w c cs) (hg:c.gs[0]? = some g) (hr:g.rs[0]? = some r) :
  ∃ al cl gb off cg ra rc rb ro,cs = #[.slice al c.rl.length cl,.slice (some ⟨gb,off,none⟩) c.gs.length cg] ∧ w.cell? ⟨gb,off + 2,none⟩ = some (.slice ra g.rs.length rc) ∧ ra = some ⟨rb,ro,none⟩ ∧ w.cell? ⟨rb,ro,none⟩ = some (tx r.nm) ∧ w.cell? ⟨gb,off + 1,none⟩ = some (.int .i64 g.ev) ∧ gb < w.heap.size ∧ rb < w.heap.size:=by
 obtain ⟨vr,vg,rfl,h1,h2⟩:=h
 obtain ⟨al,cl,rfl,_⟩:=zkx h1
 obtain ⟨ag,cg,css,rfl,_,hcl,svg,_,hkey⟩:=h2.view
 obtain ⟨a,m,k,hcs,rfl,hR⟩:=hkey 0 g hg
 obtain ⟨gb,off,rfl,hra⟩:=svg 0 _ hcs
 obtain ⟨ra,rc,rss,e,hl,svr,_,h3⟩:=hR.view
 injection e with e1 _ e3
 subst e1 e3
 obtain ⟨ds,hds,hRu⟩:=h3 0 r hr
 obtain ⟨rb,ro,rfl,hrr⟩:=svr 0 _ hds
 obtain ⟨ce,vs,rfl,_⟩:=hRu
 have k2:=hra 2 _ rfl
 have k1:=hra 1 _ rfl
 have k0:=hrr 0 (tx r.nm) (by rw [Array.getElem?_toList];exact zkv)
 simp only [Nat.zero_mul,Nat.add_zero] at k0 k1 k2
 exact ⟨al,cl,gb,off,cg,_,k,rb,ro,rfl,k2,rfl,k0,k1,World.block_lt_of_cell? _ _ k2,World.block_lt_of_cell? _ _ k0⟩
theorem zol (w:World) (he:Ev w) (het:Et w):Calls Tryz.prog 23 #[] w fun e w'=>e = .returned (.bool true) ∧ Below w.heap.size w w':=by
 have hp1:=zet K1 w (by decide) he het
 have hp2:=fun W (h1:Ev W) (h2:Et W)=>zet K2 W (by decide) h1 h2
 rw [kn1] at hp1
 have hp2:∀ W,Ev W → Et W → Calls Tryz.prog 24 #[tx K2] W fun e w'=>∃ cs,e = .returned (.tuple #[.agg cs,.int .i64 27,.int .i64 90]) ∧ Row 2 cs ∧ Below W.heap.size W w':=fun W h1 h2=>(hp2 W h1 h2).mono (fun e w' ⟨cs,a,b,c⟩=>⟨cs,by rw [a,kn2],b.row,c⟩)
 go_enter Tryz.func23,Tryz.ntmps23
 go_wp2_with fail
 refine hp1.mono ?_
 rintro e w1 ⟨cs,rfl,cf,b1⟩
 have row:=cf.row
 have e1:=he.later b1
 have t1:=het.later b1
 clear hp1
 go_wp2_with (refine zad rfl 39 _ _ rfl w1.heap.size cs rfl rfl _ 39 (zac w1 (.cells #[.slice none 0 0,.slice none 0 0] 39)) 2 rz39 rfl row ?_;intro w2 p2 o2 z2;have b2:=((Off.of (bal (Below.refl w1.heap.size w1) (.cells #[.slice none 0 0,.slice none 0 0] 39)) []).trans o2 (by simp)).below (by simp))
 have e2:=e1.later b2
 have t2:=t1.later b2
 refine (hp2 _ e2 t2).mono ?_
 rintro e w3 ⟨ds,rfl,row2,b3⟩
 have cf3:=(cf.later b2).later b3
 have B3:=Below.chain (Below.chain b1 b2) b3
 have p3:=zab b3 p2
 have e3:=e2.later b3
 have t3:=t2.later b3
 obtain ⟨al,cl,gb,off,cg,ra,rc,rb,ro,rfl,k2,rfl,k0,_,hgb,hrb⟩:=cf3.one (g:=KG) (r:=KR) rfl rfl
 clear hp2 e1 t1 e2 t2 p2 cf
 go_wp2_with (refine zad rfl 39 _ _ rfl w3.heap.size ds rfl rfl _ 39 (zac w3 (.cells #[.slice none 0 0,.slice none 0 0] 39)) 2 rz39 rfl row2 ?_;intro w4 p4 o4 z4;have b4:=((Off.of (bal (Below.refl w3.heap.size w3) (.cells #[.slice none 0 0,.slice none 0 0] 39)) []).trans o4 (by simp)).below (by simp);have q4:=zab b4 p3;have m0:=(zaa q4 0).trans rfl;have m1:=(zaa q4 1).trans rfl;have n2:=(b4.cell (p:=⟨gb,off + 2,none⟩) hgb).trans k2;have n0:=(b4.cell (p:=⟨rb,ro,none⟩) hrb).trans k0)
 have cf4:=cf3.later b4
 have B4:=Below.chain B3 b4
 have hpr:=zoa cf4 kFit (e3.later b4) (t3.later b4)
 rw [kPrC] at hpr
 refine hpr.mono ?_
 rintro e w5 ⟨rfl,b5⟩
 go_wp2_with fail
 go_ret
 exact ⟨rfl,Below.chain B4 b5⟩
end Go.Proofs.YtjlaihekocjggaaGreatDoor
