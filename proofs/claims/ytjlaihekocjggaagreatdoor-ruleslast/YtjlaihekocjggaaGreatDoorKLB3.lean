/- Texts that the others lean on. -/
import Derived.Lib.AppendZerosOnto
import Derived.Deep.Upon
import Derived.Test.YtjlaihekocjggaaGreatDoorKLB1
set_option maxHeartbeats 16000000
namespace Go.Proofs.YtjlaihekocjggaaGreatDoor.Lb
open Go.RowKit
open Go.RowKit
abbrev ofN (n:Str) (l:List Pr):List Pr:=l.filter fun p=>decide (p.1 = n)
theorem swp_app (pre post:List Pr) (x y:Pr):(Sort.swp (pre ++ x :: y :: post).toArray (pre.length + 1) pre.length) = (pre ++ y :: x :: post).toArray:=by
 have h0:(pre ++ x :: y :: post).toArray[pre.length]! = x:=by
  rw [getElem!_pos _ _ (by simp)]
  simp
 have h1:(pre ++ x :: y :: post).toArray[pre.length + 1]! = y:=by
  rw [getElem!_pos _ _ (by simp)]
  simp [List.getElem_append_right]
 unfold Sort.swp
 rw [h0,h1]
 simp
theorem arr_split (d:Array Pr) (j:Nat) (h:j + 1 < d.size):∃ pre x y post,d = (pre ++ x :: y :: post).toArray ∧ pre.length = j:=by
 refine ⟨d.toList.take j,d[j],d[j + 1],d.toList.drop (j + 2),?_,by simp;omega⟩
 have e:d.toList = d.toList.take j ++ d[j] :: d[j + 1] :: d.toList.drop (j + 2):=by
  conv=>lhs;rw [← List.take_append_drop j d.toList]
  rw [List.drop_eq_getElem_cons (by simp;omega),List.drop_eq_getElem_cons (by simp;omega)]
  simp
 rw [← e]
theorem swp_of (d:Array Pr) (j:Nat) (h:j + 1 < d.size) (hlt:ltOf nameF d[j + 1]! d[j]! = true) (n:Str):ofN n (Sort.swp d (j + 1) j).toList = ofN n d.toList:=by
 obtain ⟨pre,x,y,post,rfl,rfl⟩:=arr_split d j h
 have h0:(pre ++ x :: y :: post).toArray[pre.length]! = x:=by
  rw [getElem!_pos _ _ (by simp)]
  simp
 have h1:(pre ++ x :: y :: post).toArray[pre.length + 1]! = y:=by
  rw [getElem!_pos _ _ (by simp)]
  simp [List.getElem_append_right]
 rw [h0,h1,zev,decide_eq_true_iff] at hlt
 rw [swp_app]
 have hne:¬ (y.1 = n ∧ x.1 = n):=fun ⟨a,b⟩=>by rw [a,b] at hlt;exact zeq _ hlt
 show (pre ++ y :: x :: post).filter _ = (pre ++ x :: y :: post).filter _
 rw [List.filter_append,List.filter_append]
 congr 1
 by_cases hx:x.1 = n
 ·
  have hy:¬ y.1 = n:=fun e=>hne ⟨e,hx⟩
  simp [hx,hy]
 by_cases hy:y.1 = n
 ·
  simp [hx,hy]
 simp [hx,hy]
theorem zge (a:Nat) (n:Str):∀ (j:Nat) (d:Array Pr),j < d.size → ofN n (Sort.insInner (ltOf nameF) a j d).toList = ofN n d.toList ∧ (Sort.insInner (ltOf nameF) a j d).size = d.size
 | 0,d,_=>⟨rfl,rfl⟩
 | j + 1,d,h=>by
  rw [Sort.insInner]
  split
  ·
   rename_i hc
   simp only [Bool.and_eq_true] at hc
   have hs:(Sort.swp d (j + 1) j).size = d.size:=by simp [Sort.swp]
   have ih:=zge a n j (Sort.swp d (j + 1) j) (by rw [hs];omega)
   exact ⟨ih.1.trans (swp_of d j h hc.2 n),ih.2.trans hs⟩
  exact ⟨rfl,rfl⟩
theorem zgd (a b:Nat) (n:Str):∀ (k i:Nat) (d:Array Pr),b - i = k → b ≤ d.size → ofN n (Sort.insOuter (ltOf nameF) a b i d).toList = ofN n d.toList ∧ (Sort.insOuter (ltOf nameF) a b i d).size = d.size
 | 0,i,d,hk,_=>by rw [Sort.insOuter,if_neg (by omega)];exact ⟨rfl,rfl⟩
 | k + 1,i,d,hk,hb=>by
  rw [Sort.insOuter,if_pos (by omega)]
  have h1:=zge a n i d (by omega)
  have h2:=zgd a b n k (i + 1) (Sort.insInner (ltOf nameF) a i d) (by omega) (by rw [h1.2];exact hb)
  exact ⟨h2.1.trans h1.1,h2.2.trans h1.2⟩
theorem zjs (d:Array Pr) (n:Str):ofN n (Sort.insertionSort (ltOf nameF) d 0 d.size).toList = ofN n d.toList ∧ (Sort.insertionSort (ltOf nameF) d 0 d.size).size = d.size:=
 zgd 0 d.size n _ _ d rfl (Nat.le_refl _)
theorem ins_none (ao:Option Addr) (c:Nat) (f:Value) (w:World):Calls Tryz.prog 394 #[.slice ao 0 c,.int .i64 0,.int .i64 0,f] w fun e w'=>e = .returned (.tuple #[]) ∧ w = w':=by
 go_enter Tryz.func394,Tryz.ntmps394
 go_wp2_with fail
 go_loop [8] (fun i=>i = .int .i64 1) (fun _=>0)
 case atStart=>rfl
 case round=>
  obtain rfl:=hrel
  go_wp2
  go_end0
  exact ⟨rfl,rfl⟩
theorem ins_any (g cap base:Nat) (l:List Pr) (w0 w:World) (ho:Own w base (.slice (some ⟨g,0,none⟩) l.length cap) l) (hn:l.length ≤ 1000000) (hb:Below base w0 w) (hB:base ≤ w0.heap.size) :
  Calls Tryz.prog 394 #[.slice (some ⟨g,0,none⟩) l.length cap,.int .i64 0,.int .i64 l.length,.func (.func 327) #[] #[]] w fun e w'=>e = .returned (.tuple #[]) ∧ ∃ m,Ps w' (some ⟨g,0,none⟩) l.length m ∧ sortedN m ∧ (∀ n,ofN n m = ofN n l) ∧ Below base w0 w':=by
 obtain ⟨hH,_,hbg,hlt⟩:=Own.holds ho
 have es:l.toArray.size = l.length:=by simp
 have hcon:=AnyQ.insertionSortCmpFunc Tryz.insP 2 Tryz.isAgg69 Tryz.sizeOf69 encP (fun _=>rfl) (fun x u hu=>by simp [encP] at hu;rcases hu with rfl | rfl <;> rfl) nameF 327 #[] g 0 cap 0 l.length l.toArray w znm (zjo g 0 _ w) hH hlt (Nat.zero_le _) (by simp) (by simp;omega)
 change Calls Tryz.prog 394 _ _ _ at hcon
 rw [es] at hcon
 refine hcon.mono ?_
 rintro e w' ⟨rfl,n,os,rfl⟩
 have hsp:=Sort.insertionSort_holds (lt:=ltOf nameF) zmi l.toArray 0 l.length (Nat.zero_le _) (by simp)
 have hin:=fun n=>zjs l.toArray n
 rw [es] at hin
 generalize Sort.insertionSort (ltOf nameF) l.toArray 0 l.length = d' at *
 have hsz:d'.size = l.length:=by rw [(hin []).2]
 have hH':=holdsK_sortWorldK_c encP 2 w g 0 l.toArray d' n os hH hlt (by rw [hsz];simp)
 have hps:=Ps.of_holds hH'
 rw [hsz] at hps
 refine ⟨rfl,d'.toList,hps,?_,fun n=>(hin n).1,zhn hb hbg (Nat.le_trans hB hb.size)⟩
 unfold sortedN
 rw [List.pairwise_iff_getElem]
 intro i j hi hj hij
 simp at hi hj
 have:=hsp.2 i j (Nat.zero_le _) hij (by omega)
 rw [zev,decide_eq_false_iff_not,getElem!_pos d' i (by omega),getElem!_pos d' j (by omega)] at this
 exact this
theorem zfu (ao:Option Addr) (N cap:Nat) (f:Value) (w:World) (hn:N < 20) (X:Ending → World → Prop)
  (hc:Calls Tryz.prog 394 #[.slice ao N cap,.int .i64 0,.int .i64 N,f] w fun e w'=>e = .returned (.tuple #[]) ∧ X e w') :
  Calls Tryz.prog 378 #[.slice ao N cap,.int .i64 N,f] w fun e w'=>e = .returned (.tuple #[]) ∧ X e w':=by
 have h1:¬ (20:Int) ≤ N:=by omega
 have h2:¬ (20:Int) < N:=by omega
 have HX:=fun (_:Unit)=>hc
 clear hc
 go_enter Tryz.func378,Tryz.ntmps378
 go_wp2_with fail
 go_loop [7,8] (fun a b=>a = .int .i64 0 ∧ b = .int .i64 20) (fun _ _=>0)
 case atStart=>exact ⟨rfl,rfl⟩
 case round=>
  obtain ⟨rfl,rfl⟩:=hrel
  go_wp2_with fail
  refine (HX ()).mono ?_
  rintro e w' ⟨rfl,hX⟩
  go_wp2_with fail
  go_loopw [6] (fun b W=>b = .int .i64 20 ∧ W = w') (fun _ _=>0)
  case atStart=>exact ⟨rfl,rfl⟩
  case round=>
   obtain ⟨rfl,rfl⟩:=hrel
   go_wp2
   go_end0
   exact ⟨rfl,hX⟩
theorem znv (v:Value) (base:Nat) (l:List Pr) (w0 w:World) (ho:Own w base v l) (hn:l.length < 20) (hb:Below base w0 w) (hB:base ≤ w0.heap.size) :
  Calls Tryz.prog 338 #[v,.func (.func 327) #[] #[]] w fun e w'=>e = .returned (.tuple #[]) ∧ ∃ ao cap m,v = .slice ao l.length cap ∧ Ps w' ao l.length m ∧ sortedN m ∧ (∀ n,ofN n m = ofN n l) ∧ Below base w0 w':=by
 rcases ho.2 with ⟨rfl,h0⟩ | ⟨g,cap,cur,rfl,_⟩
 ·
  obtain rfl:l = []:=List.length_eq_zero_iff.1 h0
  have hcon:=zfu none 0 0 (.func (.func 327) #[] #[]) w (by omega) (fun _ w'=>w = w') ((ins_none none 0 _ w).mono fun e w' ⟨a,b⟩=>⟨a,b⟩)
  go_enter Tryz.func338,Tryz.ntmps338
  go_wp2_with fail
  refine hcon.mono ?_
  rintro e w' ⟨rfl,rfl⟩
  go_wp2
  go_end0
  exact ⟨rfl,none,0,[],rfl,Ps.nil _ _,List.Pairwise.nil,fun _=>rfl,hb⟩
 have hcon:=zfu (some ⟨g,0,none⟩) l.length cap (.func (.func 327) #[] #[]) w hn (fun _ w'=>∃ m,Ps w' (some ⟨g,0,none⟩) l.length m ∧ sortedN m ∧ (∀ n,ofN n m = ofN n l) ∧ Below base w0 w') ((ins_any g cap base l w0 w ho (by omega) hb hB).mono fun e w' ⟨a,b⟩=>⟨a,b⟩)
 generalize l.length = N at *
 have HC:=fun (_:Unit)=>hcon
 clear hcon ho
 go_enter Tryz.func338,Tryz.ntmps338
 go_wp2_with fail
 refine (HC ()).mono ?_
 rintro e w' ⟨rfl,m,k1,k2,k3,k4⟩
 go_wp2
 go_end0
 exact ⟨rfl,_,_,m,rfl,k1,k2,k3,k4⟩
open Go.RowKit
theorem zho {w:World}:Below w.heap.size w w.drew:=(Below.refl _ _).drew
set_option maxRecDepth 100000 in
theorem grow_any (n:Nat) (w:World) (hn:n ≤ 1000000) :
  Calls Tryz.prog 377 #[.slice none 0 0,.int .i64 n] w fun e w'=>∃ v,e = .returned v ∧ Own w' w.heap.size v [] ∧ Below w.heap.size w w':=by
 obtain ⟨i0,hi,hz0,hz1,hz2⟩:=zbj
 have h1:¬ ((n:Int) < 0):=by omega
 by_cases h0:n = 0
 ·
  subst h0
  go_enter Tryz.func377,Tryz.ntmps377
  go_wp2
  go_ret
  exact ⟨_,rfl,Own.none _ _,Below.refl _ _⟩
 have h4:(n:Int) > 0:=by omega
 have hrz:∀ ty,(Builtin.append_ #[63,3] ty #[.slice none 0 0,.int .i64 n]).run Tryz.prog w =
   .ok (.slice (some ⟨w.heap.size,0,none⟩) n (grownCap w n 0 69)) (w.drew.alloc (.cells (Builtin.zeroCells (Value.agg #[tx [],tx []]).cells n ++ Builtin.zeroCells (Value.agg #[tx [],tx []]).cells (grownCap w n 0 69 - n)) 69)):=fun ty=>
  Lib.run_append_nil_zeros w 63 3 ty 69 i0 (.agg #[tx [],tx []]) .i64 .i64 Tryz.underlying63 Tryz.underlying3 hi hz0 n (by omega) (by omega) (by omega) (by rw [hz2];omega)
 have hGn:n ≤ grownCap w n 0 69:=grownCap_ge w _ _ _
 have hG63:grownCap w n 0 69 ≤ maxLen:=grownCap_le_maxLen w n 0 69 (by unfold maxLen;omega)
 have hsz:(Builtin.zeroCells (Value.agg #[tx [],tx []]).cells n ++ Builtin.zeroCells (Value.agg #[tx [],tx []]).cells (grownCap w n 0 69 - n)).size = grownCap w n 0 69 * 2:=by
  simp [size_zeroCells,Value.cells];omega
 generalize grownCap w n 0 69 = G at *
 generalize Builtin.zeroCells (Value.agg #[tx [],tx []]).cells n ++ Builtin.zeroCells (Value.agg #[tx [],tx []]).cells (G - n) = cur at *
 have hG63':(G:Int) ≤ 9223372036854775807:=by unfold maxLen at hG63;omega
 have ho0:Own (w.alloc (.cells cur 69)) w.heap.size (.slice (some ⟨w.heap.size,0,none⟩) 0 G) []:=World.ownsRow_made w cur G (Nat.le_refl _) hG63 hsz
 have ho:=ho0.later zho
 have hbo:Below w.heap.size w (w.alloc (.cells cur 69)).drew:=Below.chain (bal (Below.refl _ _) _) zho
 clear ho0
 have HO:Hid _:=ho
 clear ho hsz hi hz0 hz1 hz2 hG63
 go_enter Tryz.func377,Tryz.ntmps377
 go_wp2_with (at_builtin;refine Lib.wpList_append_run _ rfl _ _ _ _ rfl _ _ rfl rfl _ _ (hrz _) ?_)
 go_ret
 exact ⟨_,rfl,HO.out,hbo⟩
theorem src_none (w:World) (c:Nat):Src Tryz.prog 2 63 (.slice none 0 c) 0 [] w:=by
 refine ⟨Or.inl ⟨_,Tryz.underlying63⟩,fun w'=>?_,?_,?_,rfl,fun u hu=>by cases hu⟩
 ·
  simp [Builtin.lenOf]
 ·
  exact run_firstCells_none w 2 0 0 c
 exact run_firstCells_none w.drew 2 0 0 c
theorem zmc (w:World) (c:Nat) (ao:Option Addr) (N cap:Nat) (hle:N ≤ cap) (ty:TypeId):(Builtin.append_ #[63,63] ty #[.slice ao N cap,.slice none 0 c]).run Tryz.prog w = .ok (.slice ao N cap) w:=by
 obtain ⟨i0,hi,hz0,hz1,hz2⟩:=zbj
 exact run_append_nothing w 63 63 ty 69 i0 Tryz.underlying63 hi ao N cap hle _ (by rw [hz1];exact src_none w c)
theorem Ps.cells {w:World} {ad:Addr} {n:Nat} {l:List Pr} (h:Ps w (some ad) n l):∀ j u,(cellsP l)[j]? = some u → w.cell? (ad.add j) = some u:=by
 intro j u hu
 have hlen:=h.1
 have hj:j < l.length * 2:=by
  by_cases hj:j < l.length * 2
  ·
   exact hj
  rw [List.getElem?_eq_none (by rw [zch];omega)] at hu;cases hu
 obtain ⟨b,off,e,h4⟩:=h.2 (by omega)
 cases e
 rw [Addr.add_lit]
 have hjd:j / 2 < l.length:=by omega
 obtain ⟨g1,g2⟩:=zdq hjd
 obtain ⟨k1,k2⟩:=h4 (j / 2) (by omega)
 rcases Nat.mod_two_eq_zero_or_one j with hm | hm
 ·
  have e:j / 2 * 2 = j:=by omega
  rw [e] at g1 k1
  rw [k1,← hu,g1]
 have e:j / 2 * 2 + 1 = j:=by omega
 rw [Nat.add_assoc,e] at k2
 rw [e] at g2
 rw [k2,← hu,g2]
theorem zme {w w0:World} {ops:Array Oper} {rest:List Oper} {o:Oper} {a:Act} {Q:Exit → Act → World → Prop} (hgd:o.guard = none) (s x:Operand)
  (ho:o.op = .call { callee:=.builtin .append,args:=#[s,x],argTypes:=#[63,63] }) (base:Nat) (v:Value) (acc l:List Pr) (xa:Option Addr) (n c:Nat) (hs:a.eval s = v) (hx:a.eval x = .slice xa n c)
  (hown:Own w base v acc) (hps:Ps w xa n l) (hb:Below base w0 w) (hb0:base ≤ w0.heap.size) (hN:acc.length + n ≤ 1000000)
  (h:∀ v' w',Own w' base v' (acc ++ l) → Below base w0 w' → wpList Tryz.prog ops Q rest (a.put o.dst v') w'):wpList Tryz.prog ops Q (o :: rest) a w:=by
 obtain ⟨i0,hi,hz0,hz1,hz2⟩:=zbj
 cases xa with
 | none=>
  have h0:n = 0:=by
   by_cases h:0 < n
   ·
    obtain ⟨_,_,e,_⟩:=hps.2 h;cases e
   omega
  subst h0
  obtain rfl:l = []:=List.length_eq_zero_iff.1 hps.1
  obtain ⟨ao,cap,rfl,_,hle⟩:=hown.slice
  refine Lib.wpList_append_run w hgd s x 63 63 ho _ _ hs hx _ _ (zmc w c ao _ cap hle _) (h _ _ ?_ hb)
  rw [List.append_nil]
  exact hown
 | some ad=>
  refine wpList_append_own w hgd s x 63 ho base 69 i0 (.agg #[tx [],tx []]) 2 32 Tryz.underlying63 hi hz0 hz1 hz2 zgt (by decide) v acc.length (cellsP acc) hs hown ad n c (cellsP l) hx (by rw [zch,hps.1]) hps.cells (zck _) (by unfold maxLen;omega) (by omega) (Nat.le_trans hb0 hb.size) ?_
  intro v' w' h2 h3 _
  refine h v' w' ?_ (hb.grown h3 (Nat.le_trans hb0 hb.size) (fun k hk=>(World.ownsRow.lt hown k hk).1))
  unfold Own
  rw [zel,List.length_append,hps.1]
  exact h2
set_option maxRecDepth 100000 in
theorem zoz (g:Nat) (xa:Option Addr) (n c:Nat) (l:List Pr) (ya:Option Addr) (m d:Nat) (p:List Pr) (w:World) (hn:n ≤ 100000) (hm:m ≤ 100000)
  (c0:w.cell? ⟨g,0,none⟩ = some (.slice xa n c)) (c1:w.cell? ⟨g,1,none⟩ = some (.slice ya m d)) (hx:Ps w xa n l) (hy:Ps w ya m p) :
  Calls Tryz.prog 337 #[.slice (some ⟨g,0,none⟩) 2 2] w fun e w'=>∃ v,e = .returned v ∧ Own w' w.heap.size v (l ++ p) ∧ Below w.heap.size w w':=by
 have hgr:=grow_any (n + m) w (by omega)
 have hga:=fun (_:Unit)=>hgr
 have HLn:Hid _:=hx.1
 have hcat:(((n + m:Nat)):Int) = (n:Int) + m:=by omega
 rw [hcat] at hga
 have hg:=World.block_lt_of_cell? _ _ c0
 clear hgr hcat
 go_enter Tryz.func337,Tryz.ntmps337
 go_wp2_with fail
 go_loop [11,3] (fun i s=>(i = .int .i64 0 ∧ s = .int .i64 0) ∨ (i = .int .i64 1 ∧ s = .int .i64 n) ∨ (i = .int .i64 2 ∧ s = .int .i64 ((n:Int) + m))) (fun i _=>2 - (intOf i).toNat)
 case atStart=>exact Or.inl ⟨rfl,rfl⟩
 case round=>
  rcases hrel with ⟨rfl,rfl⟩ | ⟨rfl,rfl⟩ | ⟨rfl,rfl⟩
  ·
   have h1:¬ ((n:Int) < 0):=by omega
   go_wp2
   go_round
   case rel=>exact Or.inr (Or.inl ⟨rfl,rfl⟩)
   case measure=>simp [intOf]
  ·
   have h1:¬ ((n:Int) + m < 0):=by omega
   go_wp2
   go_round
   case rel=>exact Or.inr (Or.inr ⟨rfl,rfl⟩)
   case measure=>simp [intOf]
  go_wp2_with fail
  refine (hga ()).mono ?_
  rintro e w1 ⟨v1,rfl,ho1,hb1⟩
  go_wp2_with fail
  go_loopw [27,6] (fun i v W=>((i = .int .i64 0 ∧ Own W w.heap.size v []) ∨ (i = .int .i64 1 ∧ Own W w.heap.size v l) ∨ (i = .int .i64 2 ∧ Own W w.heap.size v (l ++ p))) ∧ Below w.heap.size w W) (fun i _ _=>2 - (intOf i).toNat)
  case atStart=>exact ⟨Or.inl ⟨rfl,ho1⟩,hb1⟩
  case round=>
   obtain ⟨hrel,hb⟩:=hrel
   have k0:=(hb.cell (p:=⟨g,0,none⟩) hg).trans c0
   have k1:=(hb.cell (p:=⟨g,1,none⟩) hg).trans c1
   have hx':=hx.later hb
   have hy':=hy.later hb
   clear ho1 hb1 c0 c1
   rcases hrel with ⟨rfl,ho⟩ | ⟨rfl,ho⟩ | ⟨rfl,ho⟩
   ·
    clear hga k1
    go_wp2_with (at_builtin;go_must (refine zme (w0:=w) rfl _ _ rfl w.heap.size _ [] l xa n c rfl rfl ho hx' hb (Nat.le_refl _) ?hN ?_))
    case hN=>simp;omega
    intro v7 w7 ho7 hb7
    go_wp2
    go_roundw
    case rel=>exact ⟨Or.inr (Or.inl ⟨rfl,ho7⟩),hb7⟩
    case measure=>simp [intOf]
   ·
    clear hga k0
    go_wp2_with (at_builtin;go_must (refine zme (w0:=w) rfl _ _ rfl w.heap.size _ l p ya m d rfl rfl ho hy' hb (Nat.le_refl _) ?hN ?_))
    case hN=>rw [HLn.out];omega
    intro v7 w7 ho7 hb7
    go_wp2
    go_roundw
    case rel=>exact ⟨Or.inr (Or.inr ⟨rfl,ho7⟩),hb7⟩
    case measure=>simp [intOf]
   go_wp2_with fail
   go_ret
   exact ⟨_,rfl,ho,hb⟩
open Go.RowKit
theorem zgi {m:List Pr} {j:Nat} (h:j < m.length):m.drop j = m.getD j ([],[]) :: m.drop (j + 1):=by
 rw [zca h]
 exact List.drop_eq_getElem_cons h
theorem ends_end {m:List Pr} {j:Nat} (h:j + 1 = m.length):ends (m.drop j) = [m.getD j ([],[])] ++ ends (m.drop (j + 1)):=by
 rw [zgi (by omega),List.drop_of_length_le (by omega)]
 rfl
theorem ends_new {m:List Pr} {j:Nat} (h:j + 1 < m.length) (e:(m.getD (j + 1) ([],[])).1 ≠ (m.getD j ([],[])).1):ends (m.drop j) = [m.getD j ([],[])] ++ ends (m.drop (j + 1)):=by
 rw [zgi (show j < m.length by omega),zgi h,ends,if_neg (fun x=>e x.symm)]
 rfl
theorem ends_same {m:List Pr} {j:Nat} (h:j + 1 < m.length) (e:(m.getD (j + 1) ([],[])).1 = (m.getD j ([],[])).1):ends (m.drop j) = ends (m.drop (j + 1)):=by
 rw [zgi (show j < m.length by omega),zgi h,ends,if_pos e.symm]
set_option maxRecDepth 100000 in
theorem zoj (xa:Option Addr) (n c:Nat) (l:List Pr) (ya:Option Addr) (m d:Nat) (p:List Pr) (w:World) (hnm:n + m < 20) (hx:Ps w xa n l) (hy:Ps w ya m p) :
  Calls Tryz.prog 295 #[.slice xa n c,.slice ya m d] w fun e w'=>∃ v,e = .returned v ∧ Own w' w.heap.size v (latest l p) ∧ Below w.heap.size w w':=by
 obtain ⟨i0,hi,hz0,hz1,hz2⟩:=zbj
 have hb0:Below w.heap.size w (w.alloc (.cells #[.slice xa n c,.slice ya m d] 63)):=bal (Below.refl _ _) _
 have hcc:=zoz w.heap.size xa n c l ya m d p (w.alloc (.cells #[.slice xa n c,.slice ya m d] 63)) (by omega) (by omega) (World.cell?_alloc_new w _ _ 0) (World.cell?_alloc_new w _ _ 1) (hx.later hb0) (hy.later hb0)
 have hlen:(l ++ p).length = n + m:=by rw [List.length_append,hx.1,hy.1]
 have HL:Hid ((l ++ p).length = n + m):=hlen
 generalize hT:l ++ p = t at *
 have HT:Hid _:=hT
 clear hlen hT hx hy
 go_enter Tryz.func295,Tryz.ntmps295
 go_wp2_with fail
 refine hcc.mono ?_
 rintro e w1 ⟨v1,rfl,ho1,hb1⟩
 generalize w.alloc (.cells #[.slice xa n c,.slice ya m d] 63) = W0 at *
 have hs:=znv v1 W0.heap.size t W0 w1 ho1 (by rw [HL.out];omega) hb1 (Nat.le_refl _)
 obtain ⟨ao,cap,rfl,_,_⟩:=ho1.slice
 clear ho1 hcc
 go_wp2_with fail
 refine hs.mono ?_
 rintro e w2 ⟨rfl,ao',cap',mm,he,hps,hsrt,hof,hb2⟩
 cases he
 have HE:Hid (ends mm = latest l p):=by show _ = _;unfold latest;rw [HT.out];exact ends_eq hsrt hof
 obtain ⟨N,hN⟩:∃ N,t.length = N:=⟨_,rfl⟩
 rw [hN] at hps ⊢
 have hN2:N < 20:=by rw [← hN,HL.out];exact hnm
 have HM:Hid (mm.length = N):=hps.1
 obtain ⟨_,hcell⟩:=hps
 have B2:Below w.heap.size w w2:=Below.chain hb0 hb2
 have hbe:Below w2.heap.size w2 (w2.alloc (.cells #[] 69)):=bal (Below.refl _ _) _
 clear hs hsrt hof hb1 hb2 hb0 hN HL HT
 go_wp2_with fail
 go_loopw [18,6] (fun i u W=>∃ (j:Nat) (v:Value) (out:List Pr),j ≤ N ∧ i = .int .i64 j ∧ v = u ∧ Own W w2.heap.size v out ∧ Hid (ends mm = out ++ ends (mm.drop j)) ∧ out.length ≤ j ∧ Below w2.heap.size w2 W) (fun i _ _=>N - (intOf i).toNat)
 case atStart=>exact ⟨0,_,[],by omega,rfl,rfl,World.ownsRow_made w2 #[] 0 (Nat.le_refl _) (Nat.zero_le _) (by simp),rfl,Nat.le_refl _,hbe⟩
 case round=>
  obtain ⟨j,v,out,hj,rfl,rfl,ho,HO,hol,hb⟩:=hrel
  by_cases hlt:j < N
  ·
   obtain ⟨b1,o1,rfl,h1⟩:=hcell (by omega)
   obtain ⟨c10,c11⟩:=h1 j hlt
   have k0:=(hb.cell (p:=⟨b1,o1 + j * 2,none⟩) (World.block_lt_of_cell? _ _ c10)).trans c10
   have k1:=(hb.cell (p:=⟨b1,o1 + j * 2 + 1,none⟩) (World.block_lt_of_cell? _ _ c11)).trans c11
   have hjm:j < mm.length:=by rw [HM.out];exact hlt
   by_cases hl1:j + 1 < N
   ·
    obtain ⟨c20,_⟩:=h1 (j + 1) hl1
    have k2:=(hb.cell (p:=⟨b1,o1 + (j + 1) * 2,none⟩) (World.block_lt_of_cell? _ _ c20)).trans c20
    have HS:Hid _:=ends_same (m:=mm) (j:=j) (by rw [HM.out];exact hl1)
    have HW:Hid _:=ends_new (m:=mm) (j:=j) (by rw [HM.out];exact hl1)
    clear h1 hcell c10 c11 c20 hjm
    generalize mm.getD j ([],[]) = a at *
    generalize (mm.getD (j + 1) ([],[])).1 = q at *
    have hbx:=Box.new wr a
    have hb1:=bal hb (.cells #[tx a.1,tx a.2] 69)
    have ho1:=ho.later (bal (Below.refl _ _) (.cells #[tx a.1,tx a.2] 69))
    have hne:((j:Int) + 1 == (N:Int)) = false:=by rw [beq_eq_false_iff_ne];omega
    have hi1:(j:Int) + 1 < (N:Int):=by omega
    have hi2:¬ ((j:Int) + 1 < 0):=by omega
    have hi3:((j:Int) + 1).toNat = j + 1:=by omega
    have hi4:(0:Int) ≤ (j:Int) + 1:=by omega
    have hwr:IntKind.i64.wrap ((j:Int) + 1) = (j:Int) + 1:=by rw [IntKind.wrap_i64];omega
    obtain ⟨a1,a2⟩:=a
    dsimp only at *
    have m2:(wr.alloc (.cells #[.string ⟨a1.toArray⟩,.string ⟨a2.toArray⟩] 69)).cell? ⟨b1,o1 + (j + 1) * 2,none⟩ = some (tx q):=((bal (Below.refl _ wr) _).cell (p:=⟨b1,o1 + (j + 1) * 2,none⟩) (World.block_lt_of_cell? _ _ k2)).trans k2
    have m0:(wr.alloc (.cells #[.string ⟨a1.toArray⟩,.string ⟨a2.toArray⟩] 69)).cell? ⟨wr.heap.size,0,none⟩ = some (tx a1):=hbx.c0
    by_cases hpq:q = a1
    ·
     have HS2:Hid (ends mm = out ++ ends (mm.drop (j + 1))):=by show _ = _;rw [HO.out,HS.out hpq]
     have hpq':(q == a1) = true:=by simpa using hpq
     clear HS HW HO hpq
     go_wp2
     go_quiet (fail)
     go_wp2
     go_roundw
     case rel=>exact ⟨j + 1,_,out,by omega,by go_num,rfl,ho1.later (below_drewN (Below.refl _ _) _),HS2,by omega,below_drewN hb1 _⟩
     case measure=>simp [intOf];omega
    have HS2:Hid (ends mm = (out ++ [(a1,a2)]) ++ ends (mm.drop (j + 1))):=by show _ = _;rw [HO.out,HW.out hpq,List.append_assoc]
    have hpq':(q == a1) = false:=by simpa using hpq
    clear HS HW HO hpq
    go_wp2
    go_quiet (fail)
    have ho2:Own ((wr.alloc (.cells #[.string ⟨a1.toArray⟩,.string ⟨a2.toArray⟩] 69)).drewN nq) w2.heap.size v out:=ho1.later (below_drewN (Below.refl _ _) nq)
    have hbx2:Box ((wr.alloc (.cells #[.string ⟨a1.toArray⟩,.string ⟨a2.toArray⟩] 69)).drewN nq) wr.heap.size (a1,a2):=hbx.later (below_drewN (Below.refl _ _) nq)
    have hb2:Below w2.heap.size w2 ((wr.alloc (.cells #[.string ⟨a1.toArray⟩,.string ⟨a2.toArray⟩] 69)).drewN nq):=below_drewN hb1 nq
    clear ho ho1 hbx hb hb1
    generalize (wr.alloc (.cells #[.string ⟨a1.toArray⟩,.string ⟨a2.toArray⟩] 69)).drewN nq = W2 at *
    obtain ⟨d0,d1,_,_⟩:=hbx2
    have ho3:=ho2.later (bal (Below.refl _ _) (.cells #[tx a1,tx a2] 69))
    have hb3:=bal hb2 (.cells #[tx a1,tx a2] 69)
    go_wp2_with (at_builtin;go_must (refine zme (w0:=w2) rfl _ _ rfl w2.heap.size _ out [(a1,a2)] (some ⟨W2.heap.size,0,none⟩) 1 1 rfl rfl ho3 (Ps.one W2 (a1,a2)) hb3 (Nat.le_refl _) ?hN ?_))
    case hN=>omega
    intro v7 w7 ho7 hb7
    go_wp2
    go_roundw
    case rel=>exact ⟨j + 1,_,out ++ [(a1,a2)],by omega,by go_num,rfl,ho7,HS2,by simp;omega,hb7⟩
    case measure=>simp [intOf];omega
   have HW:Hid _:=ends_end (m:=mm) (j:=j) (by rw [HM.out];omega)
   clear h1 hcell c10 c11 hjm
   generalize mm.getD j ([],[]) = a at *
   have hbx:=Box.new wr a
   have hb1:=bal hb (.cells #[tx a.1,tx a.2] 69)
   have ho1:=ho.later (bal (Below.refl _ _) (.cells #[tx a.1,tx a.2] 69))
   have hne:((j:Int) + 1 == (N:Int)) = true:=by rw [beq_iff_eq];omega
   have hwr:IntKind.i64.wrap ((j:Int) + 1) = (j:Int) + 1:=by rw [IntKind.wrap_i64];omega
   obtain ⟨a1,a2⟩:=a
   dsimp only at *
   have HS2:Hid (ends mm = (out ++ [(a1,a2)]) ++ ends (mm.drop (j + 1))):=by show _ = _;rw [HO.out,HW.out,List.append_assoc]
   clear HW HO
   go_wp2
   go_quiet (fail)
   have ho2:Own ((wr.alloc (.cells #[.string ⟨a1.toArray⟩,.string ⟨a2.toArray⟩] 69)).drewN nq) w2.heap.size v out:=ho1.later (below_drewN (Below.refl _ _) nq)
   have hbx2:Box ((wr.alloc (.cells #[.string ⟨a1.toArray⟩,.string ⟨a2.toArray⟩] 69)).drewN nq) wr.heap.size (a1,a2):=hbx.later (below_drewN (Below.refl _ _) nq)
   have hb2:Below w2.heap.size w2 ((wr.alloc (.cells #[.string ⟨a1.toArray⟩,.string ⟨a2.toArray⟩] 69)).drewN nq):=below_drewN hb1 nq
   clear ho ho1 hbx hb hb1
   generalize (wr.alloc (.cells #[.string ⟨a1.toArray⟩,.string ⟨a2.toArray⟩] 69)).drewN nq = W2 at *
   obtain ⟨d0,d1,_,_⟩:=hbx2
   have ho3:=ho2.later (bal (Below.refl _ _) (.cells #[tx a1,tx a2] 69))
   have hb3:=bal hb2 (.cells #[tx a1,tx a2] 69)
   go_wp2_with (at_builtin;go_must (refine zme (w0:=w2) rfl _ _ rfl w2.heap.size _ out [(a1,a2)] (some ⟨W2.heap.size,0,none⟩) 1 1 rfl rfl ho3 (Ps.one W2 (a1,a2)) hb3 (Nat.le_refl _) ?hN ?_))
   case hN=>omega
   intro v7 w7 ho7 hb7
   go_wp2
   go_roundw
   case rel=>exact ⟨j + 1,_,out ++ [(a1,a2)],by omega,by go_num,rfl,ho7,HS2,by simp;omega,hb7⟩
   case measure=>simp [intOf];omega
  have hjN:j = N:=by omega
  have HR:Hid (out = latest l p):=by
   show _ = _
   have:=HO.out
   rw [List.drop_of_length_le (by rw [HM.out];omega)] at this
   rw [← HE.out,this]
   simp [ends]
  rw [HR.out] at ho
  clear HO HR hol hjN
  go_wp2_with fail
  go_ret
  exact ⟨_,rfl,ho.base B2.size,B2.trans (hb.mono B2.size)⟩
theorem zok (l:List Pr):(lastOf l).length ≤ l.length:=by
 induction l with
 | nil=>exact Nat.le_refl _
 | cons a r ih=>
  rw [lastOf]
  split
  ·
   exact Nat.le_trans ih (Nat.le_succ _)
  simpa using ih
theorem latest_len (l p:List Pr):(latest l p).length ≤ l.length + p.length:=by
 unfold latest
 rw [(zcw _).length_eq,← List.length_append]
 exact zok _
theorem latest_fit {l p:List Pr} (hl:Fit l) (hp:Fit p):Fit (latest l p):=fun q hq=>by
 have h:=zhd ((zcw _).mem_iff.1 hq)
 rcases List.mem_append.1 h with h | h
 ·
  exact hl q h
 exact hp q h
set_option maxRecDepth 100000 in
theorem with_any (xa:Option Addr) (n c:Nat) (l:List Pr) (ya:Option Addr) (m d:Nat) (p:List Pr) (w:World) (hn:n ≤ 1000000) (hm:m ≤ 11) (hf:Fit l) (hfp:Fit p) (hx:Ps w xa n l) (hy:Ps w ya m p) :
  Calls Tryz.prog 247 #[.slice xa n c,.slice ya m d] w fun e w'=>∃ v,e = .returned (.tuple #[v,.int .i64 (withE l p)]) ∧ Own w' w.heap.size v (withL l p) ∧ Below w.heap.size w w':=by
 have his:=is_any xa n c l w (by omega) hf hx
 cases hil:fIs l with
 | false=>
  have HE:Hid (withE l p = 30):=by show _ = _;unfold withE;rw [hil];rfl
  have HLL:Hid (withL l p = []):=by show _ = _;unfold withL;rw [HE.out];rfl
  rw [hil] at his
  clear hil
  go_enter Tryz.func247,Tryz.ntmps247
  go_wp2_with fail
  refine his.mono ?_
  rintro e w1 ⟨rfl,hb1⟩
  go_wp2
  go_ret2
  exact ⟨_,by rw [HE.out];rfl,by rw [HLL.out];exact Own.none _ _,hb1⟩
 | true=>
  obtain ⟨HE,HLL⟩:=zlg l p hil
  have HE':Hid _:=HE
  have HL':Hid _:=HLL
  have hn8:n ≤ 8:=by rw [← hx.1];exact ((is_iff l).1 hil).1
  rw [hil] at his
  clear hil HE HLL
  go_enter Tryz.func247,Tryz.ntmps247
  go_wp2_with fail
  refine his.mono ?_
  rintro e w1 ⟨rfl,hb1⟩
  go_wp2_with fail
  refine (zoj xa n c l ya m d p w1 (by omega) (hx.later hb1) (hy.later hb1)).mono ?_
  rintro e w2 ⟨v2,rfl,ho2,hb2⟩
  have B2:=Below.chain hb1 hb2
  obtain ⟨ao,cap,rfl,hps⟩:=ho2.fitN
  have hmk:=zna ao (latest l p).length cap (latest l p) w2 (Nat.le_trans (latest_len l p) (by rw [hx.1,hy.1];omega)) (latest_fit hf hfp) hps
  rw [HE'.out,HL'.out] at hmk
  generalize (latest l p).length = N at *
  clear ho2
  go_wp2_with fail
  refine hmk.mono ?_
  rintro e w3 ⟨v3,rfl,ho3,hb3⟩
  go_wp2
  go_ret2
  exact ⟨_,rfl,ho3.base B2.size,Below.chain B2 hb3⟩
end Go.Proofs.YtjlaihekocjggaaGreatDoor.Lb
