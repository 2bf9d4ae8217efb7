/- The law RulesBuilt: a file put together of parts. -/
import Derived.Test.YtjlaihekocjggaaGreatDoorKRPl
import Derived.Test.YtjlaihekocjggaaGreatDoorKRPz
import Derived.Test.YtjlaihekocjggaaGreatDoorKYSame
set_option maxHeartbeats 16000000
namespace Go.Proofs.YtjlaihekocjggaaGreatDoor.Bt
open Go.RowKit
def Lt (v:Str):Prop:=∀ x ∈ v,97 ≤ x.toNat ∧ x.toNat ≤ 122
theorem Lt.ne {v:Str} (h:Lt v) {c:UInt8} (hc:c.toNat < 97 ∨ 122 < c.toNat):c ∉ v:=fun hm=>by
 have:=h c hm
 omega
theorem Lt.tl {x:UInt8} {v:Str} (h:Lt (x :: v)):Lt v:=fun y hy=>h y (List.mem_cons_of_mem _ hy)
theorem Lt.no {x:UInt8} {v:Str} (h:Lt (x :: v)) {c:UInt8} (hc:c.toNat < 97 ∨ 122 < c.toNat):x ≠ c:=fun e=>by
 have:=h x (by simp)
 rw [e] at this
 omega
theorem Lt.ch {v:Str} (h:Lt v):∀ x ∈ v,nameCh x = true:=fun x hx=>by
 have:=h x hx
 simp [nameCh,letB,this.1,this.2]
theorem Lt.dig {v:Str} (h:Lt v):∀ x ∈ v,digB x = false:=fun x hx=>by
 have:=h x hx
 unfold digB
 rw [Bool.and_eq_false_iff]
 exact Or.inr (decide_eq_false (by omega))
theorem Lt.name {v:Str} (h:Lt v) (h1:1 ≤ v.length) (h2:v.length ≤ 20):fName v = true:=by
 cases v with
 | nil=>simp at h1
 | cons x v=>
  have hd:=h.dig x (by simp)
  unfold fName
  rw [Bool.and_eq_true,Bool.and_eq_true,Bool.and_eq_true,decide_eq_true_eq,decide_eq_true_eq,List.headD_cons,hd,List.all_eq_true]
  exact ⟨⟨⟨h1,h2⟩,rfl⟩,h.ch⟩
theorem Lt.c10 {v:Str} (h:Lt v):v.contains 10 = false:=by
 rw [List.contains_eq_mem]
 exact decide_eq_false (h.ne (by decide))
theorem Lt.val {v:Str} (h:Lt v) (h1:1 ≤ v.length) (h2:v.length ≤ 20):fVal v = true:=by
 unfold fVal
 rw [h.c10,decide_eq_true h1,decide_eq_true (show v.length ≤ 30 by omega)]
 rfl
theorem Lt.esc {v:Str} (h:Lt v):esc v = v:=by
 induction v with
 | nil=>rfl
 | cons x v ih=>
  show escC x ++ Go.Proofs.YtjlaihekocjggaaGreatDoor.esc v = x :: v
  rw [ih h.tl]
  unfold escC
  rw [if_neg (fun e=>e.elim (h.no (by decide)) (h.no (by decide)))]
  rfl
theorem Lt.rdVal {v:Str} (h:Lt v) (r:Str):rdVal (v ++ 34 :: r) = (v,r):=by
 induction v with
 | nil=>
  rw [List.nil_append,rdVal.eq_def]
  dsimp only
  rw [if_pos rfl]
 | cons x v ih=>
  have h1:=h.no (c:=34) (by decide)
  have h2:=h.no (c:=92) (by decide)
  rw [List.cons_append,rdVal.eq_def]
  dsimp only
  rw [if_neg h1,if_neg h2,ih h.tl]
theorem ub_s {q:Bool} {c:UInt8} (r:Str) (h2:c ≠ 92) (h1:c ≠ 34) (h3:c ≠ 32):ub q (c :: r) = ub q r + 1:=by
 rw [ub.eq_def]
 dsimp only
 rw [if_neg (fun e=>h2 e.2),if_neg h1,if_neg (fun e=>h3 e.1)]
theorem ub_q (q:Bool) (r:Str):ub q (34 :: r) = ub (!q) r + 1:=by
 rw [ub.eq_def]
 dsimp only
 rw [if_neg (fun e=>absurd e.2 (by decide)),if_pos rfl]
theorem ub_0 (r:Str):ub false (32 :: r) = 0:=by
 rw [ub.eq_def]
 dsimp only
 rw [if_neg (by decide),if_neg (by decide),if_pos ⟨rfl,rfl⟩]
theorem Lt.ub {v:Str} (h:Lt v) (r:Str):ub true (v ++ 34 :: r) = v.length + (ub false r + 1):=by
 induction v with
 | nil=>rw [List.nil_append,ub_q];simp
 | cons x v ih=>
  rw [List.cons_append,ub_s _ (h.no (by decide)) (h.no (by decide)) (h.no (by decide)),ih h.tl,List.length_cons]
  omega
/-! ### A record's line -/
def lnR (v:Str):Str:=[114,101,99,111,114,100,32,114,123,108,61,34] ++ v ++ [34,125,32,61,32] ++ v ++ [32,43,32,49]
def sR (v:Str):Str:=[114,123,108,61,34] ++ v ++ [34,125]
def xR (v:Str):Str:=v ++ [32,43,32,49]
def lR (v:Str):List Pr:=[(nm,[114]),([108],v)]
theorem rcR_ln (v:Str):rcR (lnR v) = sR v ++ (bW ++ xR v):=by
 have e:rcR (lnR v) = [114,123,108,61,34] ++ v ++ [34,125,32,61,32] ++ v ++ [32,43,32,49]:=rfl
 rw [e]
 simp [sR,bW,xR]
theorem ub_ln {v:Str} (h:Lt v):ub false (sR v ++ (bW ++ xR v)) = (sR v).length:=by
 have e:sR v ++ (bW ++ xR v) = 114 :: 123 :: 108 :: 61 :: 34 :: (v ++ 34 :: (125 :: 32 :: 61 :: 32 :: xR v)):=by simp [sR,bW]
 rw [e,ub_s _ (by decide) (by decide) (by decide),ub_s _ (by decide) (by decide) (by decide),ub_s _ (by decide) (by decide) (by decide),ub_s _ (by decide) (by decide) (by decide),ub_q]
 show ub true _ + 1 + 1 + 1 + 1 + 1 = _
 rw [h.ub,ub_s _ (by decide) (by decide) (by decide),ub_0]
 simp [sR]
theorem rcS_ln {v:Str} (h:Lt v):rcS (lnR v) = sR v:=by
 unfold rcS
 rw [rcR_ln,ub_ln h,List.take_left' rfl]
theorem rcT_ln {v:Str} (h:Lt v):rcT (lnR v) = bW ++ xR v:=by
 unfold rcT
 rw [rcR_ln,ub_ln h,List.drop_left' rfl]
theorem rcX_ln {v:Str} (h:Lt v):rcX (lnR v) = xR v:=by
 unfold rcX
 rw [rcR_ln,ub_ln h,← List.append_assoc,List.drop_left' (by simp [bW])]
theorem rdAll_s {v:Str} (h:Lt v):rdAll (sR v) = lR v:=by
 have e:sR v = [114] ++ 123 :: (108 :: 61 :: 34 :: (v ++ 34 :: [125])):=by simp [sR]
 have c1:Lib.cut ([114] ++ 123 :: (108 :: 61 :: 34 :: (v ++ 34 :: [125]))) [123] = ([114],108 :: 61 :: 34 :: (v ++ 34 :: [125]),true):=by
  unfold Lib.cut
  rw [index_hit _ (by decide)]
  rfl
 have i2:∀ u:Str,Lib.index (108 :: 61 :: 34 :: u) [61,34] = 1:=fun u=>by simp [Lib.index,List.isPrefixOf]
 have c2:∀ u:Str,Lib.cut (108 :: 61 :: 34 :: u) [61,34] = ([108],u,true):=fun u=>by
  unfold Lib.cut
  rw [i2]
  rfl
 have c3:Lib.cut (Lib.trimPrefix [125] [44]) [61,34] = ([125],[],false):=rfl
 have hl:(108 :: 61 :: 34 :: (v ++ 34 :: [125]):Str).length + 1 = (v.length + 4) + 1 + 1:=by simp
 unfold rdAll
 rw [e,c1]
 dsimp only
 rw [hl,rdPairs,c2]
 dsimp only
 rw [if_pos rfl,if_neg (by decide),h.rdVal,rdPairs]
 dsimp only
 rw [c3]
 rfl
theorem srt_l {v:Str} (h:Lt v) (h1:1 ≤ v.length) (h2:v.length ≤ 20):srt (full (lR v)) = lR v ∧ fIs (lR v) = true:=by
 constructor
 ·
  cases v with
  | nil=>simp at h1
  | cons x v=>
   show ins (nm,[114]) (ins ([108],x :: v) []) = _
   show (if ([108]:Str) < nm then _ else _) = _
   rw [if_neg (by decide)]
   rfl
 have hv:=h.val h1 h2
 show (true && (okAt (lR v) 0 && (okAt (lR v) 1 && true))) = true
 have o0:okAt (lR v) 0 = true:=rfl
 have o1:okAt (lR v) 1 = (true && fVal v && true):=rfl
 rw [o0,o1,hv]
 rfl
theorem make_l {v:Str} (h:Lt v) (h1:1 ≤ v.length) (h2:v.length ≤ 20):makeE (lR v) = 0 ∧ makeL (lR v) = lR v:=by
 obtain ⟨s1,s2⟩:=srt_l h h1 h2
 have t:twice (lR v) = false:=rfl
 have e:makeE (lR v) = 0:=by
  unfold makeE
  rw [t,if_neg (by decide),s1,if_pos s2]
 refine ⟨e,?_⟩
 unfold makeL
 rw [if_pos e,s1]
theorem print_l {v:Str} (h:Lt v) (h1:1 ≤ v.length) (h2:v.length ≤ 20):fPrint (lR v) = sR v:=by
 obtain ⟨_,s2⟩:=srt_l h h1 h2
 have m:metric (lR v) = [114]:=rfl
 have o:others (lR v) = [([108],v)]:=rfl
 have i:inner [([108],v)] = [108,61,34] ++ v ++ [34]:=by
  show Lib.join [[108] ++ [61,34] ++ Go.Proofs.YtjlaihekocjggaaGreatDoor.esc v ++ [34]] [44] = _
  rw [Lib.join_one,h.esc]
  rfl
 unfold fPrint
 rw [if_pos s2,m,o,if_neg (fun e=>by cases e.2),i]
 simp [sR]
theorem parse_l {v:Str} (h:Lt v) (h1:1 ≤ v.length) (h2:v.length ≤ 20):parseE (sR v) = 0 ∧ parseL (sR v) = lR v:=by
 obtain ⟨m1,m2⟩:=make_l h h1 h2
 have ok:okParse (sR v) = true:=by
  unfold okParse
  rw [rdAll_s h,m1,m2,print_l h h1 h2,decide_eq_true rfl,decide_eq_true rfl]
  rfl
 unfold parseE parseL
 rw [if_pos ok,if_pos ok,rdAll_s h,m2]
 exact ⟨rfl,rfl⟩
theorem rcOk_ln {v:Str} (h:Lt v) (h1:1 ≤ v.length) (h2:v.length ≤ 20):rcOk (lnR v) = true:=by
 obtain ⟨p1,p2⟩:=parse_l h h1 h2
 unfold rcOk rcM
 rw [rcT_ln h,rcS_ln h,p1,p2]
 rfl
def RV (v:Str):Ru:=⟨[114],psX (xR v),[([108],v)]⟩
theorem rcRu_ln {v:Str} (h:Lt v) (h1:1 ≤ v.length) (h2:v.length ≤ 20):rcRu (lnR v) = RV v:=by
 obtain ⟨p1,p2⟩:=parse_l h h1 h2
 unfold rcRu rcM
 rw [rcS_ln h,rcX_ln h,p2]
 rfl
/-! ### Its expression -/
def nOne:Int:=match tok [49] with
 | some x=>x.1.n
 | none=>0
theorem sc_x {v:Str} (h:Lt v) (h1:1 ≤ v.length) (h2:v.length ≤ 20):scE (xR v) = 0 ∧ ∃ p0 p1 p2 p3,scL (xR v) = [⟨1,p0,v,false,0,0⟩,⟨5,p1,[43],false,0,0⟩,⟨2,p2,[],false,nOne,0⟩,⟨0,p3,[],false,0,0⟩]:=by
 have hl:(xR v).length = v.length + 4:=by simp [xR]
 have hi:idN (xR v) = v.length:=by
  unfold idN xR
  refine run_len (by simp) (fun i hi hk=>?_) (fun hk=>?_)
  ·
   rw [List.getElem_append_left hk]
   exact h.ch _ (List.getElem_mem hk)
  rw [List.getElem_append_right (Nat.le_refl _)]
  simp
  rfl
 have ht:tok (xR v) = some (tIdent v,v.length):=by
  have e3:(xR v).take v.length = v:=List.take_left' rfl
  unfold tok
  rw [hi,e3]
  cases v with
  | nil=>simp at h1
  | cons x v=>
   have d1:=h.dig x (by simp)
   have d2:=h.ch x (by simp)
   show (if digB x = true then _ else if nameCh x = true then _ else _) = _
   rw [if_neg (by simp [d1]),if_pos d2]
   unfold tkId
   rw [if_pos (h.name h1 h2)]
 have hne:xR v ≠ []:=by simp [xR]
 have hlead:lead (xR v) = xR v:=by
  cases v with
  | nil=>simp at h1
  | cons x v=>
   have hb:blB x = false:=by
    have:=h.no (c:=32) (by decide)
    have:=h.no (c:=9) (by decide)
    unfold blB
    simp [*]
   show (x :: (v ++ [32,43,32,49])).dropWhile blB = _
   rw [List.dropWhile_cons_of_neg (by simp [hb])]
   rfl
 have hd:lead ((xR v).drop v.length) = [43,32,49]:=by
  unfold xR
  rw [List.drop_left' rfl]
  rfl
 have hs:sc (xR v) = .inr [⟨1,((v.length + 4 - (v.length + 4):Nat):Int),v,false,0,0⟩,⟨5,((v.length + 4 - 3:Nat):Int),[43],false,0,0⟩,⟨2,((v.length + 4 - 1:Nat):Int),[],false,nOne,0⟩]:=by
  unfold sc
  rw [hlead,zgz hne ht h1,hd,hl]
  rfl
 obtain ⟨s1,_,s3⟩:=sc_ok (by omega) hs
 exact ⟨s1,_,_,_,_,by rw [s3];rfl⟩
def XV (v:Str) (p0 p1 p2:Int):Ex:=eBin p1 [43] false false [] (eSel p0 [⟨nmL,1,v⟩] 0) (eNum p2 false nOne)
theorem rd_x (v:Str) (p0 p1 p2 p3:Int):rdP [⟨1,p0,v,false,0,0⟩,⟨5,p1,[43],false,0,0⟩,⟨2,p2,[],false,nOne,0⟩,⟨0,p3,[],false,0,0⟩] = .inr (XV v p0 p1 p2):=by
 have hn:∀ c,namP p3 c [⟨1,p0,v,false,0,0⟩,⟨5,p1,[43],false,0,0⟩,⟨2,p2,[],false,nOne,0⟩,⟨0,p3,[],false,0,0⟩] = .inr (eSel p0 [⟨nmL,1,v⟩] 0,[⟨5,p1,[43],false,0,0⟩,⟨2,p2,[],false,nOne,0⟩,⟨0,p3,[],false,0,0⟩]):=fun c=>by
  show (if (isAggB v && false) = true then _ else if (isModB v && false) = true then _ else _) = _
  rw [Bool.and_false,Bool.and_false,if_neg (by decide),if_neg (by decide)]
  rfl
 have hu:unD p3 15 [⟨1,p0,v,false,0,0⟩,⟨5,p1,[43],false,0,0⟩,⟨2,p2,[],false,nOne,0⟩,⟨0,p3,[],false,0,0⟩] = .inr (eSel p0 [⟨nmL,1,v⟩] 0,[⟨5,p1,[43],false,0,0⟩,⟨2,p2,[],false,nOne,0⟩,⟨0,p3,[],false,0,0⟩]):=hn _
 have h3:chP p3 3 (unD p3 15) [⟨1,p0,v,false,0,0⟩,⟨5,p1,[43],false,0,0⟩,⟨2,p2,[],false,nOne,0⟩,⟨0,p3,[],false,0,0⟩] = .inr (eSel p0 [⟨nmL,1,v⟩] 0,[⟨5,p1,[43],false,0,0⟩,⟨2,p2,[],false,nOne,0⟩,⟨0,p3,[],false,0,0⟩]):=by
  unfold chP
  rw [hu]
  rfl
 have h2:chP p3 2 (chP p3 3 (unD p3 15)) [⟨1,p0,v,false,0,0⟩,⟨5,p1,[43],false,0,0⟩,⟨2,p2,[],false,nOne,0⟩,⟨0,p3,[],false,0,0⟩] = .inr (XV v p0 p1 p2,[⟨0,p3,[],false,0,0⟩]):=by
  show bnd (chP p3 3 (unD p3 15) _) _ = _
  rw [h3]
  rfl
 show bnd (bnd (chP p3 2 (chP p3 3 (unD p3 15)) _) _) _ = _
 rw [h2]
 rfl
theorem ex_x {v:Str} (h:Lt v) (h1:1 ≤ v.length) (h2:v.length ≤ 20):psE (xR v) = 0 ∧ (exW (xR v)).2 = 0:=by
 obtain ⟨s0,p0,p1,p2,p3,sl⟩:=sc_x h h1 h2
 have he:psE (xR v) = 0:=by
  unfold psE rdE
  rw [if_pos s0,sl,rd_x]
 have hx:psX (xR v) = XV v p0 p1 p2:=by
  unfold psX rdX
  rw [if_pos s0,sl,rd_x]
 refine ⟨he,?_⟩
 have sz3:sz (XV v p0 p1 p2) = 3:=by
  unfold XV eBin eSel eNum
  rw [zko,szL,szL,szL,zko,zko,szL]
 have sn2:sndE (eSel p0 [⟨nmL,1,v⟩] 0) = true:=by
  rw [zkr]
  unfold eSel
  have k:kindE ⟨2,p0,false,0,[],[⟨nmL,1,v⟩],0,false,false,false,false,[],[]⟩ = true:=by
   show (true && true && ((true && true && decide (v.length ≤ 30) && !v.contains 10) && true) && true) = true
   rw [h.c10,decide_eq_true (show v.length ≤ 30 by omega)]
   rfl
  rw [k]
  simp [alk,ownE,msEq,mEq,nEq]
 have sn1:sndE (eNum p2 false nOne) = true:=by
  rw [zkr]
  rfl
 have sn:sndE (XV v p0 p1 p2) = true:=by
  rw [zkr]
  unfold XV eBin
  show (true && true && (sndE (eSel p0 [⟨nmL,1,v⟩] 0) && (sndE (eNum p2 false nOne) && true))) = true
  rw [sn1,sn2]
  rfl
 have ty:tyE (XV v p0 p1 p2) = (2,0,0):=by
  rw [tyE_eq]
  unfold XV eBin
  show tyG _ [tyE (eSel p0 [⟨nmL,1,v⟩] 0),tyE (eNum p2 false nOne)] = _
  rw [tyE_eq,tyE_eq]
  rfl
 have hi:isE (XV v p0 p1 p2) = true:=by
  unfold isE
  rw [sz3,sn]
  rfl
 unfold exW
 rw [if_pos he,hx]
 unfold ofE
 rw [if_pos hi,ty]
 rfl
/-! ### Groups -/
def dgs (e:Nat):Str:=if 9 < e then [UInt8.ofNat (48 + e / 10),UInt8.ofNat (48 + e % 10)] else [UInt8.ofNat (48 + e % 10)]
def gN (g:Nat):Str:=[103,UInt8.ofNat (48 + g)]
def lnG (g e:Nat):Str:=[103,114,111,117,112,32,103,UInt8.ofNat (48 + g),32,101,118,101,114,121,32] ++ dgs e
theorem g_all:(List.range 3).all (fun g=>(List.range 20).all fun e=>decide (hdOf (lnG g (e + 1)) = some (gN g,((e + 1:Nat):Int))) && decide (wrd (lnG g (e + 1)) = [103,114,111,117,112]) && decide (¬ (lnG g (e + 1)).head?.getD 35 = 35) && !(lnG g (e + 1)).contains 10 && decide ((lnG g (e + 1)).length ≤ 17)) = true:=by kernel_rfl
theorem g_one {g e:Nat} (hg:g < 3) (he:1 ≤ e) (he2:e ≤ 20):hdOf (lnG g e) = some (gN g,(e:Int)) ∧ wrd (lnG g e) = [103,114,111,117,112] ∧ ¬ (lnG g e).head?.getD 35 = 35 ∧ (10:UInt8) ∉ lnG g e ∧ (lnG g e).length ≤ 17:=by
 have h:=List.all_eq_true.1 (List.all_eq_true.1 g_all g (List.mem_range.2 hg)) (e - 1) (List.mem_range.2 (by omega))
 rw [show e - 1 + 1 = e by omega] at h
 rw [Bool.and_eq_true,Bool.and_eq_true,Bool.and_eq_true,Bool.and_eq_true,decide_eq_true_eq,decide_eq_true_eq,decide_eq_true_eq,decide_eq_true_eq,Bool.not_eq_true',List.contains_eq_mem,decide_eq_false_iff_not] at h
 exact ⟨h.1.1.1.1,h.1.1.1.2,h.1.1.2,h.1.2,h.2⟩
/-! ### Run -/
def Rn (c:Cf) (t:Str) (c':Cf):Prop:=∀ b r,∃ b',runF c b (sp 10 (t ++ r)) = runF c' b' (sp 10 r)
theorem Rn.nil (c:Cf):Rn c [] c:=fun b _=>⟨b,rfl⟩
theorem Rn.line {c c':Cf} {l:Str} (h:(10:UInt8) ∉ l) (hs:stC c l = .inl c'):Rn c (l ++ [10]) c':=fun b r=>by
 refine ⟨b + ((l.length:Int) + 1),?_⟩
 rw [List.append_assoc]
 show runF c b (sp 10 (l ++ 10 :: r)) = _
 rw [sp_at r h,runF,hs]
theorem Rn.app {c c' c2:Cf} {t u:Str} (h:Rn c t c') (k:Rn c' u c2):Rn c (t ++ u) c2:=fun b r=>by
 obtain ⟨b1,e1⟩:=h b (u ++ r)
 obtain ⟨b2,e2⟩:=k b1 r
 exact ⟨b2,by rw [List.append_assoc,e1,e2]⟩
theorem Rn.done {c':Cf} {t:Str} (h:Rn cf0 t c') (hl:t.length ≤ 3000):pF t = (c',0,0):=by
 obtain ⟨b,e⟩:=h 0 []
 unfold pF
 rw [if_neg (by omega)]
 rw [List.append_nil] at e
 rw [e]
 rfl
theorem ln_no {v:Str} (h:Lt v):(10:UInt8) ∉ lnR v:=by
 have:=h.ne (c:=10) (by decide)
 unfold lnR
 simp [this]
theorem wrd_at {a:Str} (r:Str) (h:(32:UInt8) ∉ a):wrd (a ++ 32 :: r) = a:=by
 unfold wrd Lib.cut
 rw [index_hit r h,if_pos (by omega)]
 simp
theorem Rn.rec {v:Str} (h:Lt v) (h1:1 ≤ v.length) (h2:v.length ≤ 20) (rl:List Rl) (gs:List Gr) (n:Str) (ev:Int) (rs:List Ru) (hr:rs.length < 8):Rn ⟨rl,gs ++ [⟨n,ev,rs⟩]⟩ (lnR v ++ [10]) ⟨rl,gs ++ [⟨n,ev,rs ++ [RV v]⟩]⟩:=by
 refine Rn.line (ln_no h) ?_
 have w:wrd (lnR v) = [114,101,99,111,114,100]:=by
  have e:lnR v = [114,101,99,111,114,100] ++ 32 :: ([114,123,108,61,34] ++ v ++ [34,125,32,61,32] ++ v ++ [32,43,32,49]):=by simp [lnR]
  rw [e,wrd_at _ (by decide)]
 have hd:¬ (lnR v).head?.getD 35 = 35:=by
  show ¬ (114:UInt8) = 35
  decide
 unfold stC
 rw [if_neg hd,w,if_neg (by decide),if_pos rfl]
 unfold stR
 rw [if_pos (rcOk_ln h h1 h2)]
 dsimp only
 rw [List.getLast?_concat,List.dropLast_concat,rcX_ln h,rcRu_ln h h1 h2]
 dsimp only
 rw [if_neg (by omega),if_pos (ex_x h h1 h2).2]
def tR (v:Str) (k:Nat):Str:=(List.replicate k (lnR v ++ [10])).flatten
theorem tR_s (v:Str) (k:Nat):tR v (k + 1) = tR v k ++ (lnR v ++ [10]):=by
 unfold tR
 rw [List.replicate_succ',List.flatten_append]
 simp
theorem tR_len (v:Str) (k:Nat):(tR v k).length = k * (2 * v.length + 22):=by
 have e:(lnR v ++ [10]).length = 2 * v.length + 22:=by
  simp [lnR]
  omega
 induction k with
 | zero=>simp [tR]
 | succ k ih=>rw [tR_s,List.length_append,ih,e,Nat.add_mul,Nat.one_mul]
theorem Rn.recs {v:Str} (h:Lt v) (h1:1 ≤ v.length) (h2:v.length ≤ 20) (rl:List Rl) (gs:List Gr) (n:Str) (ev:Int):∀ k,k ≤ 8 → Rn ⟨rl,gs ++ [⟨n,ev,[]⟩]⟩ (tR v k) ⟨rl,gs ++ [⟨n,ev,List.replicate k (RV v)⟩]⟩
 | 0,_=>Rn.nil _
 | k + 1,hk=>by
  rw [tR_s,List.replicate_succ']
  exact (Rn.recs h h1 h2 rl gs n ev k (by omega)).app (Rn.rec h h1 h2 rl gs n ev _ (by simp;omega))
theorem Rn.grp {g e:Nat} (hg:g < 3) (he:1 ≤ e) (he2:e ≤ 20) (rl:List Rl) (gs:List Gr) (h3:gs.length ≠ 3) (ha:gs.any (fun x=>x.name == gN g) = false):Rn ⟨rl,gs⟩ (lnG g e ++ [10]) ⟨rl,gs ++ [⟨gN g,e,[]⟩]⟩:=by
 obtain ⟨g1,g2,g3,g4,_⟩:=g_one hg he he2
 refine Rn.line g4 ?_
 unfold stC
 rw [if_neg g3,g2,if_pos rfl]
 unfold stG
 rw [g1]
 dsimp only
 rw [if_neg h3,ha,if_neg (by decide)]
def l0:Str:=[108,97,98,101,108,100,114,111,112,32,34,120,42,34]
def tH:Str:=[108,97,98,101,108,100,114,111,112,32,34,120,42,34,10,10,35,32,97,10]
theorem l0_ok:(rlOk l0 && decide ((rlP l0).frm.text = [120,42]) && decide (¬ l0.head?.getD 35 = 35) && decide (wrd l0 ≠ [103,114,111,117,112]) && decide (wrd l0 ≠ [114,101,99,111,114,100]) && !l0.contains 10) = true:=by kernel_rfl
theorem Rn.head:Rn cf0 tH ⟨[rlP l0],[]⟩:=by
 have h:=l0_ok
 rw [Bool.and_eq_true,Bool.and_eq_true,Bool.and_eq_true,Bool.and_eq_true,Bool.and_eq_true,decide_eq_true_eq,decide_eq_true_eq,decide_eq_true_eq,decide_eq_true_eq,Bool.not_eq_true',List.contains_eq_mem,decide_eq_false_iff_not] at h
 obtain ⟨⟨⟨⟨⟨a1,_⟩,a3⟩,a4⟩,a5⟩,a6⟩:=h
 have s0:stC cf0 l0 = .inl ⟨[rlP l0],[]⟩:=by
  unfold stC
  rw [if_neg a3,if_neg a4,if_neg a5]
  unfold stL
  rw [if_pos a1]
  rfl
 have s1:stC ⟨[rlP l0],[]⟩ [] = .inl ⟨[rlP l0],[]⟩:=rfl
 have s2:stC ⟨[rlP l0],[]⟩ [35,32,97] = .inl ⟨[rlP l0],[]⟩:=rfl
 exact ((Rn.line a6 s0).app (Rn.line (by decide) s1)).app (Rn.line (by decide) s2)
def tG (v:Str) (g e k:Nat):Str:=lnG g e ++ [10] ++ tR v k
theorem tG_len {v:Str} {g e k:Nat} (hg:g < 3) (he:1 ≤ e) (he2:e ≤ 20) (hv:v.length ≤ 20) (hk:k ≤ 8):(tG v g e k).length ≤ 600:=by
 have h:=(g_one hg he he2).2.2.2.2
 have:k * (2 * v.length + 22) ≤ 8 * (2 * v.length + 22):=Nat.mul_le_mul_right _ hk
 unfold tG
 rw [List.length_append,List.length_append,tR_len]
 simp
 omega
def cG (v:Str) (g e k:Nat):Gr:=⟨gN g,e,List.replicate k (RV v)⟩
theorem built {v:Str} (h:Lt v) (h1:1 ≤ v.length) (h2:v.length ≤ 20) {e0 e1 e2 k0 k1 k2:Nat} (a0:1 ≤ e0 ∧ e0 ≤ 20) (a1:1 ≤ e1 ∧ e1 ≤ 20) (a2:1 ≤ e2 ∧ e2 ≤ 20) (b0:k0 ≤ 8) (b1:k1 ≤ 8) (b2:k2 ≤ 8) :
  pF (tH ++ tG v 0 e0 k0 ++ tG v 1 e1 k1 ++ tG v 2 e2 k2) = (⟨[rlP l0],[cG v 0 e0 k0,cG v 1 e1 k1,cG v 2 e2 k2]⟩,0,0):=by
 refine Rn.done (((Rn.head.app ((Rn.grp (by decide) a0.1 a0.2 _ [] (by decide) rfl).app (Rn.recs h h1 h2 _ [] _ _ k0 b0))).app ((Rn.grp (by decide) a1.1 a1.2 _ [cG v 0 e0 k0] (by simp) rfl).app (Rn.recs h h1 h2 _ [cG v 0 e0 k0] _ _ k1 b1))).app ((Rn.grp (by decide) a2.1 a2.2 _ [cG v 0 e0 k0,cG v 1 e1 k1] (by simp) rfl).app (Rn.recs h h1 h2 _ [cG v 0 e0 k0,cG v 1 e1 k1] _ _ k2 b2))) ?_
 have l1:=tG_len (v:=v) (g:=0) (by decide) a0.1 a0.2 h2 b0
 have l2:=tG_len (v:=v) (g:=1) (by decide) a1.1 a1.2 h2 b1
 have l3:=tG_len (v:=v) (g:=2) (by decide) a2.1 a2.2 h2 b2
 have lh:tH.length = 20:=rfl
 simp only [List.length_append]
 omega
theorem l0_text:(rlP l0).frm.text = [120,42]:=by
 have h:=l0_ok
 rw [Bool.and_eq_true,Bool.and_eq_true,Bool.and_eq_true,Bool.and_eq_true,Bool.and_eq_true,decide_eq_true_eq] at h
 exact h.1.1.1.1.2
abbrev ar3 (a:Nat → Nat):Value:=.agg #[.int .u8 (a 0:Nat),.int .u8 (a 1:Nat),.int .u8 (a 2:Nat)]
def bc (a:Nat → Nat):Obj:=.cells #[.int .u8 (a 0:Nat),.int .u8 (a 1:Nat),.int .u8 (a 2:Nat)] 54
theorem bc_cell {w:World} {b:Nat} {a:Nat → Nat} (h:w.heap[b]? = some (bc a)) {j:Nat} (hj:j < 3):w.cell? ⟨b,j,none⟩ = some (.int .u8 (a j:Nat)):=by
 have e:w.cell? ⟨b,j,none⟩ = (#[.int .u8 (a 0:Nat),.int .u8 (a 1:Nat),.int .u8 (a 2:Nat)]:Array Value)[j]?:=zaa h j
 rw [e]
 have h:j = 0 ∨ j = 1 ∨ j = 2:=by omega
 rcases h with rfl | rfl | rfl <;> rfl
theorem boxes (w:World) (a b:Nat → Nat):((w.alloc (bc a)).alloc (bc b)).heap[w.heap.size]? = some (bc a) ∧ ((w.alloc (bc a)).alloc (bc b)).heap[w.heap.size + 1]? = some (bc b) ∧ Below w.heap.size w ((w.alloc (bc a)).alloc (bc b)):=by
 have h1:=zac w (bc a)
 have h2:=zac (w.alloc (bc a)) (bc b)
 have z:(w.alloc (bc a)).heap.size = w.heap.size + 1:=by simp
 rw [z] at h2
 exact ⟨zab (bal (Below.refl _ _) _) h1,h2,bal (bal (Below.refl _ _) _) _⟩
set_option maxRecDepth 4000 in
theorem built_bad (a b:Nat → Nat) (v:Str) (p:Nat) (hp:p < v.length) (hl:v.length ≤ 9223372036854775807) (hv:Hid (∀ j (h:j < v.length),j < p → 97 ≤ v[j].toNat ∧ v[j].toNat ≤ 122)) (hb:¬ (97 ≤ v[p].toNat ∧ v[p].toNat ≤ 122)) (w:World) (he:Ev w) (het:Et w):Calls Tryz.prog 9 #[ar3 a,ar3 b,tx v] w fun e w'=>e = .returned (.bool true) ∧ Below w.heap.size w w':=by
 obtain ⟨_,_,B0⟩:=boxes w a b
 have hkn:=zol ((w.alloc (bc a)).alloc (bc b)) (he.later B0) (het.later B0)
 have HB:Hid (∀ (h:p < v.length),¬ (97 ≤ v[p].toNat ∧ v[p].toNat ≤ 122)):=fun _=>hb
 clear hb he het
 go_enter Tryz.func9,Tryz.ntmps9
 go_wp2_with fail
 refine hkn.mono ?_
 rintro e w1 ⟨rfl,b1⟩
 have C1:=Below.chain B0 b1
 clear hkn b1 B0
 go_wp2_with fail
 go_loop [7] (fun i=>∃ j:Nat,j ≤ p ∧ i = .int .i64 j) (fun i=>p + 1 - (intOf i).toNat)
 case atStart=>exact ⟨0,by omega,rfl⟩
 case round=>
  obtain ⟨j,hj,rfl⟩:=hrel
  have hjl:j < v.length:=by omega
  have hbk:=zed hjl
  have hlt':(j:Int) < (v.length:Int):=by omega
  have e1:((⟨v.toArray⟩:ByteArray)[j]'hbk) = v[j]:=rfl
  by_cases hlt:j < p
  ·
   obtain ⟨q1,q2⟩:=hv.out j hjl hlt
   rw [← e1] at q1 q2
   have q1':¬ (((⟨v.toArray⟩:ByteArray)[j]'hbk).toNat:Int) < 97:=by omega
   have q2':¬ (122:Int) < (((⟨v.toArray⟩:ByteArray)[j]'hbk).toNat:Int):=by omega
   clear e1 q1 q2
   go_wp2
   go_round
   case rel=>exact ⟨j + 1,by omega,by go_num⟩
   case measure=>simp [intOf];omega
  have e:j = p:=by omega
  subst e
  have q:=HB.out hjl
  rw [← e1] at q
  clear e1
  by_cases q1:((⟨v.toArray⟩:ByteArray)[j]'hbk).toNat < 97
  ·
   have q1':(((⟨v.toArray⟩:ByteArray)[j]'hbk).toNat:Int) < 97:=by omega
   clear q q1 HB hv
   go_wp2
   go_ret
   exact ⟨by simp,C1⟩
  have q1':¬ (((⟨v.toArray⟩:ByteArray)[j]'hbk).toNat:Int) < 97:=by omega
  have q2':(122:Int) < (((⟨v.toArray⟩:ByteArray)[j]'hbk).toNat:Int):=by omega
  clear q q1 HB hv
  go_wp2
  go_ret
  exact ⟨by simp,C1⟩
set_option maxRecDepth 4000 in
theorem built_len (a b:Nat → Nat) (v:Str) (hl:v.length ≤ 9223372036854775807) (hv:Hid (Lt v)) (hb:v.length = 0 ∨ 20 < v.length) (w:World) (he:Ev w) (het:Et w):Calls Tryz.prog 9 #[ar3 a,ar3 b,tx v] w fun e w'=>e = .returned (.bool true) ∧ Below w.heap.size w w':=by
 obtain ⟨_,_,B0⟩:=boxes w a b
 have hkn:=zol ((w.alloc (bc a)).alloc (bc b)) (he.later B0) (het.later B0)
 clear he het
 go_enter Tryz.func9,Tryz.ntmps9
 go_wp2_with fail
 refine hkn.mono ?_
 rintro e w1 ⟨rfl,b1⟩
 have C1:=Below.chain B0 b1
 clear hkn b1 B0
 go_wp2_with fail
 go_loop [7] (fun i=>∃ j:Nat,j ≤ v.length ∧ i = .int .i64 j) (fun i=>v.length + 1 - (intOf i).toNat)
 case atStart=>exact ⟨0,by omega,rfl⟩
 case round=>
  obtain ⟨j,hj,rfl⟩:=hrel
  by_cases hjl:j < v.length
  ·
   have hbk:=zed hjl
   have hlt':(j:Int) < (v.length:Int):=by omega
   have e1:((⟨v.toArray⟩:ByteArray)[j]'hbk) = v[j]:=rfl
   obtain ⟨q1,q2⟩:=hv.out v[j] (List.getElem_mem hjl)
   rw [← e1] at q1 q2
   have q1':¬ (((⟨v.toArray⟩:ByteArray)[j]'hbk).toNat:Int) < 97:=by omega
   have q2':¬ (122:Int) < (((⟨v.toArray⟩:ByteArray)[j]'hbk).toNat:Int):=by omega
   clear e1 q1 q2 hb
   go_wp2
   go_round
   case rel=>exact ⟨j + 1,by omega,by go_num⟩
   case measure=>simp [intOf];omega
  have hlt':¬ (j:Int) < (v.length:Int):=by omega
  rcases hb with hb | hb
  ·
   have hb':(v.length:Int) = 0:=by omega
   clear hj hjl hb
   go_wp2
   go_ret
   exact ⟨by simp,C1⟩
  have hb1:((v.length:Int) == 0) = false:=beq_eq_false_iff_ne.2 (by omega)
  have hb2:(20:Int) < (v.length:Int):=by omega
  clear hj hjl hb
  go_wp2
  go_ret
  exact ⟨by simp,C1⟩
theorem cv_one (W:World) (R:Nat) (h:R < 10):(convert 55 9 (.slice (some ⟨W.heap.size,0,none⟩) 1 1)).run Tryz.prog (W.alloc (.cells #[.int .u8 (48 + (R:Int))] 5)) = .ok (.string ⟨#[UInt8.ofNat (48 + R)]⟩) (W.alloc (.cells #[.int .u8 (48 + (R:Int))] 5)):=by
 refine run_convert_bytes_back (P:=Tryz.prog) (W.alloc (.cells #[.int .u8 (48 + (R:Int))] 5)) 55 9 5 ⟨W.heap.size,0,none⟩ 1 [UInt8.ofNat (48 + R)] Tryz.underlying55 Tryz.underlying5 Tryz.underlying9 (fun j hj=>?_)
 obtain rfl:j = 0:=by simpa using hj
 rw [Lib.add_plain,World.cell?_alloc_new]
 have:(UInt8.ofNat (48 + R)).toNat = 48 + R:=by
  rw [UInt8.toNat_ofNat']
  omega
 show some (Value.int .u8 (48 + (R:Int))) = some (.int .u8 ((UInt8.ofNat (48 + R)).toNat:Int))
 rw [this]
 congr 2
def bS (v:Str) (a b:Nat → Nat):Nat → Str
 | 0=>tH
 | j + 1=>bS v a b j ++ tG v j (a j % 20 + 1) (b j % 9)
theorem bS_len {v:Str} {a b:Nat → Nat} (hv:v.length ≤ 20):∀ j,j ≤ 3 → (bS v a b j).length ≤ 20 + 600 * j
 | 0,_=>by show tH.length ≤ _;decide
 | j + 1,h=>by
  have h1:=bS_len (a:=a) (b:=b) hv j (by omega)
  have h2:=tG_len (v:=v) (g:=j) (e:=a j % 20 + 1) (k:=b j % 9) (by omega) (by omega) (by omega) hv (by omega)
  show (bS v a b j ++ tG v j _ _).length ≤ _
  rw [List.length_append]
  omega
theorem tmod_nat (n k:Nat):((n:Nat):Int).tmod (k:Nat) = ((n % k:Nat):Int):=by
 rw [Int.tmod_eq_emod_of_nonneg (by omega)]
 rfl
theorem tdiv_nat (n k:Nat):((n:Nat):Int).tdiv (k:Nat) = ((n / k:Nat):Int):=by
 rw [Int.tdiv_eq_ediv_of_nonneg (by omega)]
 rfl
/-! ### What lies there -/
def cC (v:Str) (a b:Nat → Nat):Cf:=⟨[rlP l0],[cG v 0 (a 0 % 20 + 1) (b 0 % 9),cG v 1 (a 1 % 20 + 1) (b 1 % 9),cG v 2 (a 2 % 20 + 1) (b 2 % 9)]⟩
theorem cell_up {w w':World} {b off:Nat} {x:Value} (hb:Below w.heap.size w w') (k:w.cell? ⟨b,off,none⟩ = some x):w'.cell? ⟨b,off,none⟩ = some x:=(hb.cell (p:=⟨b,off,none⟩) (World.block_lt_of_cell? _ _ k)).trans k
theorem cf_all {P:Nat → Prop} {w:World} {v:Str} {a b:Nat → Nat} {cs:Array Value} (h:CfP P w (cC v a b) cs):∃ rb ro cl gb gf cg,cs = #[.slice (some ⟨rb,ro,none⟩) 1 cl,.slice (some ⟨gb,gf,none⟩) 3 cg] ∧ w.cell? ⟨rb,ro + 3,none⟩ = some (tx [120,42]) ∧ ∀ j,j < 3 → ∃ ra rc,w.cell? ⟨gb,gf + j * 3 + 1,none⟩ = some (.int .i64 ((a j % 20 + 1:Nat):Int)) ∧ w.cell? ⟨gb,gf + j * 3 + 2,none⟩ = some (.slice ra (b j % 9) rc) ∧ RsP P w (.slice ra (b j % 9) rc) (List.replicate (b j % 9) (RV v)):=by
 obtain ⟨vr,vg,rfl,h1,h2⟩:=h
 obtain ⟨al,cl,rfl,svl⟩:=zkx h1
 obtain ⟨rb,ro,rfl,hra⟩:=svl 0 (rA (rlP l0)) rfl
 obtain ⟨ag,cg,css,rfl,_,_,svg,_,hkey⟩:=h2.view
 have hgs:∀ j,j < 3 → (cC v a b).gs[j]? = some (cG v j (a j % 20 + 1) (b j % 9)):=fun j hj=>by
  have:j = 0 ∨ j = 1 ∨ j = 2:=by omega
  rcases this with rfl | rfl | rfl <;> rfl
 obtain ⟨a0,m0,c0,hcs0,_,_⟩:=hkey 0 _ (hgs 0 (by decide))
 obtain ⟨gb,gf,rfl,_⟩:=svg 0 _ hcs0
 refine ⟨rb,ro,cl,gb,gf,cg,rfl,?_,fun j hj=>?_⟩
 ·
  have k:=hra 3 (tx (rlP l0).frm.text) rfl
  rw [l0_text] at k
  simpa using k
 ·
  obtain ⟨aj,mj,cj,hcs,rfl,hR⟩:=hkey j _ (hgs j hj)
  obtain ⟨gb',gf',e,hr⟩:=svg j _ hcs
  injection e with e
  injection e with e1 e2
  subst e1 e2
  have hlen:(cG v j (a j % 20 + 1) (b j % 9)).rs.length = b j % 9:=List.length_replicate
  rw [hlen] at hr hR
  exact ⟨aj,cj,hr 1 _ rfl,hr 2 _ rfl,hR⟩
theorem rs_at {P:Nat → Prop} {w:World} {ra:Option Addr} {k rc:Nat} {v:Str} (h:RsP P w (.slice ra k rc) (List.replicate k (RV v))) {n:Nat} (hn:n < k):∃ rb ro ce sb si sc,ra = some ⟨rb,ro,none⟩ ∧ w.rangeAt rb (ro + n * 15) (ruA (RV v) ce (.slice (some ⟨sb,si,none⟩) 1 sc)).toList ∧ Row 15 (ruA (RV v) ce (.slice (some ⟨sb,si,none⟩) 1 sc)) ∧ TrP P w (psX (xR v)) ce ∧ w.cell? ⟨sb,si + 1,none⟩ = some (tx v):=by
 obtain ⟨ao,cap,rss,e,_,sv,_,hk⟩:=h.view
 injection e with e1 _ e3
 subst e1 e3
 obtain ⟨cs,hcs,hru⟩:=hk n (RV v) (by rw [List.getElem?_replicate,if_pos hn])
 have row:=hru.row
 obtain ⟨rb,ro,rfl,hr⟩:=sv n cs hcs
 obtain ⟨ce,vs,rfl,ht,hs⟩:=hru
 obtain ⟨so,sc,rfl,_,h4⟩:=hs
 obtain ⟨sb,si,rfl,_,hc⟩:=h4 (by show (0:Nat) < 1;omega)
 exact ⟨rb,ro,ce,sb,si,sc,rfl,hr,row,ht,(hc 1 (by show (1:Nat) < 2;omega)).trans rfl⟩
theorem rz28:(Tryz.prog.info? 28).map (·.size) = some 13:=by kernel_rfl
theorem wp_rg {w:World} {ops:Array Oper} {rest:List Oper} {o:Oper} {a:Act} {Q:Exit → Act → World → Prop} (x:Operand) (ho:o.op = .load 28 x) (b off:Nat) (cs:Array Value) (hx:a.eval x = .pointer (some ⟨b,off,none⟩)) (hgd:Region.wanted o (yielded ops a.tmps) = true) (hr:w.rangeAt b off cs.toList) (hn:cs.size = 13) (h:wpList Tryz.prog ops Q rest (a.put o.dst (.agg cs)) w):wpList Tryz.prog ops Q (o :: rest) a w:=by
 refine wpList_step fun K hK=>?_
 rw [if_pos hgd]
 refine wp_load_mid 28 x ho b off hx cs.toList _ hr Tryz.underlying28 rfl (by rw [rz28];simp [hn]) (hK _ _ ?_)
 simpa using h
theorem rg_of {w:World} {g:Nat} {cs:Array Value} {t:TypeId} (h:w.heap[g]? = some (.cells cs t)):w.rangeAt g 0 cs.toList:=fun j v hv=>by
 rw [Nat.zero_add,zaa h]
 simpa using hv
theorem ms_self:∀ l,msEq l l = true
 | []=>rfl
 | a :: l=>by rw [msEq,ms_self l];simp [mEq]
theorem alk_self (e:Ex):alk e e = true:=by simp [alk,nEq,ms_self]
theorem sm_self:∀ e,smE e e = true:=by
 refine Ex.ind _ ?_
 intro e ih
 rw [smE_eq,alk_self,smL_yes e.ks e.ks rfl (fun k x y hx hy=>?_)]
 ·
  rfl
 ·
  rw [hx] at hy
  injection hy with hy
  subst hy
  exact ih x (List.mem_of_getElem? hx)
end Go.Proofs.YtjlaihekocjggaaGreatDoor.Bt
