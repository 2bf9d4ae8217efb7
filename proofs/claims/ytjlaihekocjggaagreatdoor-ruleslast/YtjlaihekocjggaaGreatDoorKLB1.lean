/- Texts that the others lean on. -/
import Derived.Lib.OwnBridge
import Derived.Lib.AppendIntMem
import Derived.Laws.OwnMore
import Derived.Shelf.SlSortCmp.NoneTotal
import Derived.Test.YtjlaihekocjggaaGreatDoorKMB
import Derived.Test.YtjlaihekocjggaaGreatDoorKLShelf
set_option maxHeartbeats 16000000
namespace Go.Proofs.YtjlaihekocjggaaGreatDoor.Lb
open Go.RowKit
theorem znj (p:Pr) (l:List Pr) (n:Str):fGet (p :: l) n = if p.1 = n then p.2 else fGet l n:=by
 unfold fGet
 rw [List.find?_cons]
 by_cases h:p.1 = n
 ·
  simp [h]
 simp [h]
theorem val_len {s:Str} (h:fVal s = true):1 ≤ s.length ∧ s.length ≤ 30:=by
 unfold fVal at h
 simp only [Bool.and_eq_true,decide_eq_true_iff] at h
 exact h.1
/-! ### Of each name the last -/
def lastOf:List Pr → List Pr
 | []=>[]
 | p :: r=>if r.any (fun q=>decide (q.1 = p.1)) = true then lastOf r else p :: lastOf r
def ends:List Pr → List Pr
 | []=>[]
 | [p]=>[p]
 | p :: q :: r=>if p.1 = q.1 then ends (q :: r) else p :: ends (q :: r)
def lastN (l:List Pr) (n:Str):Option Pr:=(l.filter fun p=>decide (p.1 = n)).getLast?
theorem zdn (p:Pr) (l:List Pr) (n:Str):lastN (p :: l) n = if l.any (fun q=>decide (q.1 = n)) = true then lastN l n else if p.1 = n then some p else none:=by
 unfold lastN
 by_cases ha:l.any (fun q=>decide (q.1 = n)) = true
 ·
  rw [if_pos ha]
  obtain ⟨q,hq,he⟩:=List.any_eq_true.1 ha
  have hne:(l.filter fun p=>decide (p.1 = n)) ≠ []:=List.ne_nil_of_mem (List.mem_filter.2 ⟨hq,he⟩)
  rw [List.filter_cons]
  split
  ·
   rw [List.getLast?_cons]
   cases h:(l.filter fun p=>decide (p.1 = n)).getLast? with
   | none=>exact absurd (List.getLast?_eq_none_iff.1 h) hne
   | some x=>rfl
  rfl
 rw [if_neg ha]
 have he:(l.filter fun p=>decide (p.1 = n)) = []:=by
  rw [List.filter_eq_nil_iff]
  intro q hq e
  exact ha (List.any_eq_true.2 ⟨q,hq,e⟩)
 rw [List.filter_cons,he]
 by_cases h:p.1 = n
 ·
  simp [h]
 simp [h]
theorem zhe (l:List Pr) (p:Pr):p ∈ lastOf l ↔ lastN l p.1 = some p:=by
 induction l with
 | nil=>simp [lastOf,lastN]
 | cons a l ih=>
  rw [zdn,lastOf]
  by_cases ha:l.any (fun q=>decide (q.1 = a.1)) = true
  ·
   rw [if_pos ha,ih]
   by_cases e:a.1 = p.1
   ·
    rw [e] at ha
    rw [if_pos ha]
   by_cases hb:l.any (fun q=>decide (q.1 = p.1)) = true
   ·
    rw [if_pos hb]
   rw [if_neg hb,if_neg e]
   have:lastN l p.1 = none:=by
    unfold lastN
    rw [List.getLast?_eq_none_iff,List.filter_eq_nil_iff]
    exact fun q hq e=>hb (List.any_eq_true.2 ⟨q,hq,e⟩)
   rw [this]
  rw [if_neg ha,List.mem_cons,ih]
  by_cases e:p = a
  ·
   subst e
   rw [if_neg ha,if_pos rfl]
   simp
  by_cases hb:l.any (fun q=>decide (q.1 = p.1)) = true
  ·
   rw [if_pos hb]
   simp [e]
  rw [if_neg hb]
  have:lastN l p.1 = none:=by
   unfold lastN
   rw [List.getLast?_eq_none_iff,List.filter_eq_nil_iff]
   exact fun q hq e=>hb (List.any_eq_true.2 ⟨q,hq,e⟩)
  rw [this]
  by_cases e2:a.1 = p.1
  ·
   rw [if_pos e2]
   simp [e]
   exact fun e'=>e e'.symm
  rw [if_neg e2]
  simp [e]
theorem zhd {l:List Pr} {p:Pr} (h:p ∈ lastOf l):p ∈ l:=by
 rw [zhe] at h
 exact (List.mem_filter.1 (List.mem_of_getLast? h)).1
theorem zfh (l:List Pr):((lastOf l).map (·.1)).Nodup:=by
 induction l with
 | nil=>simp [lastOf]
 | cons a l ih=>
  rw [lastOf]
  split
  ·
   exact ih
  rename_i h
  rw [List.map_cons,List.nodup_cons]
  refine ⟨fun hm=>?_,ih⟩
  obtain ⟨q,hq,e⟩:=List.mem_map.1 hm
  exact h (List.any_eq_true.2 ⟨q,zhd hq,by simpa using e⟩)
theorem ends_sub {l:List Pr} {p:Pr} (h:p ∈ ends l):p ∈ l:=by
 induction l using ends.induct with
 | case1=>simp [ends] at h
 | case2 q=>simpa [ends] using h
 | case3 a b r e ih=>
  rw [ends,if_pos e] at h
  exact List.mem_cons_of_mem _ (ih h)
 | case4 a b r e ih=>
  rw [ends,if_neg e] at h
  rcases List.mem_cons.1 h with rfl | h
  ·
   exact List.mem_cons_self
  exact List.mem_cons_of_mem _ (ih h)
theorem zhj {l:List Pr} (h:sortedN l):rises (ends l):=by
 unfold rises
 induction l using ends.induct with
 | case1=>exact List.Pairwise.nil
 | case2 q=>simp [ends]
 | case3 a b r e ih=>
  rw [ends,if_pos e]
  exact ih (List.pairwise_cons.1 h).2
 | case4 a b r e ih=>
  rw [ends,if_neg e,List.pairwise_cons]
  have h':=List.pairwise_cons.1 h
  refine ⟨fun x hx=>?_,ih h'.2⟩
  have hab:a.1 < b.1:=by
   have:=h'.1 b List.mem_cons_self
   by_cases k:a.1 < b.1
   ·
    exact k
   exact absurd (zft k this) e
  rcases List.mem_cons.1 (ends_sub hx) with rfl | hx
  ·
   exact hab
  have:=(List.pairwise_cons.1 h'.2).1 x hx
  by_cases k:b.1 < x.1
  ·
   exact zdg hab k
  rw [← zft k this];exact hab
theorem ends_mem {l:List Pr} (h:sortedN l) (p:Pr):p ∈ ends l ↔ lastN l p.1 = some p:=by
 induction l using ends.induct with
 | case1=>simp [ends,lastN]
 | case2 q=>
  rw [zdn]
  simp [ends]
  by_cases e:p = q
  ·
   subst e;simp
  simp [e,Ne.symm e]
 | case3 a b r e ih=>
  have h':=List.pairwise_cons.1 h
  rw [ends,if_pos e,ih h'.2,zdn a]
  by_cases hb:(b :: r).any (fun q=>decide (q.1 = p.1)) = true
  ·
   rw [if_pos hb]
  rw [if_neg hb]
  have h2:lastN (b :: r) p.1 = none:=by
   unfold lastN
   rw [List.getLast?_eq_none_iff,List.filter_eq_nil_iff]
   exact fun q hq e=>hb (List.any_eq_true.2 ⟨q,hq,e⟩)
  have h3:¬ a.1 = p.1:=fun e'=>hb (List.any_eq_true.2 ⟨b,List.mem_cons_self,by simp [← e,e']⟩)
  rw [h2,if_neg h3]
 | case4 a b r e ih=>
  have h':=List.pairwise_cons.1 h
  rw [ends,if_neg e,List.mem_cons,ih h'.2,zdn a]
  have hab:a.1 < b.1:=by
   have:=h'.1 b List.mem_cons_self
   by_cases k:a.1 < b.1
   ·
    exact k
   exact absurd (zft k this) e
  have hno:∀ q ∈ b :: r,q.1 ≠ a.1:=by
   intro q hq eq
   rcases List.mem_cons.1 hq with rfl | hq
   ·
    exact e eq.symm
   have:=(List.pairwise_cons.1 h'.2).1 q hq
   rw [eq] at this
   exact this hab
  by_cases hb:(b :: r).any (fun q=>decide (q.1 = p.1)) = true
  ·
   rw [if_pos hb]
   obtain ⟨q,hq,e2⟩:=List.any_eq_true.1 hb
   have:p ≠ a:=fun e3=>hno q hq (by simp at e2;rw [e2,e3])
   simp [this]
  rw [if_neg hb]
  have h2:lastN (b :: r) p.1 = none:=by
   unfold lastN
   rw [List.getLast?_eq_none_iff,List.filter_eq_nil_iff]
   exact fun q hq e=>hb (List.any_eq_true.2 ⟨q,hq,e⟩)
  rw [h2]
  by_cases e3:a.1 = p.1
  ·
   rw [if_pos e3]
   simp
   exact eq_comm
  rw [if_neg e3]
  have:p ≠ a:=fun e4=>e3 (by rw [e4])
  simp [this]
theorem zdr {l:List Pr} (h:(l.map (·.1)).Nodup):l.Nodup:=by
 rw [List.Nodup,List.pairwise_map] at h
 exact h.imp fun hab e=>hab (by rw [e])
theorem zle {l m:List Pr} (hl:(l.map (·.1)).Nodup) (hm:(m.map (·.1)).Nodup) (h:∀ p,p ∈ l ↔ p ∈ m):l.Perm m:=
 (List.perm_ext_iff_of_nodup (zdr hl) (zdr hm)).2 h
theorem ends_eq {s l:List Pr} (hs:sortedN s) (hst:∀ n,(s.filter fun p=>decide (p.1 = n)) = l.filter fun p=>decide (p.1 = n)):ends s = srt (lastOf l):=by
 refine (srt_of ?_ (zhj hs)).symm
 refine zle (zcx (zhj hs)) (zfh l) fun p=>?_
 rw [ends_mem hs,zhe]
 unfold lastN
 rw [hst]
def latest (l p:List Pr):List Pr:=srt (lastOf (l ++ p))
theorem zjp (l p:List Pr):rises (latest l p):=
 zfc (zgw _) ((((zcw _).map (·.1)).nodup_iff).2 (zfh _))
def withE (l p:List Pr):Int:=if fIs l = true then (if fIs (full (latest l p)) = true then 0 else 30) else 30
def withL (l p:List Pr):List Pr:=if withE l p = 0 then full (latest l p) else []
theorem zlg (l p:List Pr) (h:fIs l = true):makeE (latest l p) = withE l p ∧ makeL (latest l p) = withL l p:=by
 have hr:=zjp l p
 have ht:twice (latest l p) = false:=by unfold twice;simpa using zcx hr
 have hs:srt (full (latest l p)) = full (latest l p):=srt_rises (zff hr _)
 have he:makeE (latest l p) = withE l p:=by
  unfold makeE withE
  rw [ht,hs,if_pos h,if_neg (by simp)]
 refine ⟨he,?_⟩
 unfold makeL withL
 rw [he,hs]
def Ps (w:World) (ao:Option Addr) (n:Nat) (l:List Pr):Prop:=
 l.length = n ∧ (0 < n → ∃ b off,ao = some ⟨b,off,none⟩ ∧ ∀ j,j < n → w.cell? ⟨b,off + j * 2,none⟩ = some (tx (l.getD j ([],[])).1) ∧ w.cell? ⟨b,off + j * 2 + 1,none⟩ = some (tx (l.getD j ([],[])).2))
theorem Ps.later {w w':World} {ao:Option Addr} {n:Nat} {l:List Pr} (h:Ps w ao n l) (hb:Below w.heap.size w w'):Ps w' ao n l:=by
 obtain ⟨h1,h4⟩:=h
 refine ⟨h1,fun hp=>?_⟩
 obtain ⟨b,off,e,hc⟩:=h4 hp
 exact ⟨b,off,e,fun j hj=>⟨(hb.cell (p:=⟨b,off + j * 2,none⟩) (World.block_lt_of_cell? _ _ (hc j hj).1)).trans (hc j hj).1,(hb.cell (p:=⟨b,off + j * 2 + 1,none⟩) (World.block_lt_of_cell? _ _ (hc j hj).2)).trans (hc j hj).2⟩⟩
theorem Ps.nil (w:World) (ao:Option Addr):Ps w ao 0 []:=⟨rfl,fun h=>by omega⟩
def Fit (l:List Pr):Prop:=∀ p ∈ l,p.1.length ≤ 9223372036854775807 ∧ p.2.length ≤ 9223372036854775807
theorem Fit.at {l:List Pr} (h:Fit l) (j:Nat):(l.getD j ([],[])).1.length ≤ 9223372036854775807 ∧ (l.getD j ([],[])).2.length ≤ 9223372036854775807:=by
 by_cases hj:j < l.length
 ·
  rw [List.getD,List.getElem?_eq_getElem hj]
  exact h _ (List.getElem_mem hj)
 rw [List.getD,List.getElem?_eq_none (by omega)]
 simp
structure Box (w:World) (b:Nat) (p:Pr):Prop where
 c0:w.cell? ⟨b,0,none⟩ = some (tx p.1)
 c1:w.cell? ⟨b,1,none⟩ = some (tx p.2)
 f0:w.frozen? ⟨b,0,none⟩ = false
 f1:w.frozen? ⟨b,1,none⟩ = false
theorem Box.new (w:World) (p:Pr):Box (w.alloc (.cells #[tx p.1,tx p.2] 69)) w.heap.size p:=by
 constructor <;> simp [go_sem]
theorem Box.later {w w':World} {b:Nat} {p:Pr} (h:Box w b p) (hb:Below w.heap.size w w'):Box w' b p:=by
 have hl:b < w.heap.size:=World.block_lt_of_cell? _ _ h.c0
 exact ⟨(hb.cell (p:=⟨b,0,none⟩) hl).trans h.c0,(hb.cell (p:=⟨b,1,none⟩) hl).trans h.c1,(hb.frozen (p:=⟨b,0,none⟩) hl).trans h.f0,(hb.frozen (p:=⟨b,1,none⟩) hl).trans h.f1⟩
theorem Box.lt {w:World} {b:Nat} {p:Pr} (h:Box w b p):b < w.heap.size:=World.block_lt_of_cell? _ _ h.c0
/-! ### Get -/
theorem zca {l:List Pr} {k:Nat} (hk:k < l.length):l.getD k ([],[]) = l[k]:=by simp [List.getD,List.getElem?_eq_getElem hk]
theorem zii {l:List Pr} {n:Str} {k:Nat} (hk:k < l.length) (h:(l.getD k ([],[])).1 ≠ n):fGet (l.drop k) n = fGet (l.drop (k + 1)) n:=by
 rw [List.drop_eq_getElem_cons hk,znj]
 rw [zca hk] at h
 rw [if_neg h]
theorem zkb {l:List Pr} {n:Str} {k:Nat} (hk:k < l.length) (h:(l.getD k ([],[])).1 = n):fGet (l.drop k) n = (l.getD k ([],[])).2:=by
 rw [List.drop_eq_getElem_cons hk,znj]
 rw [zca hk] at *
 rw [if_pos h]
theorem get_any (ao:Option Addr) (n cap:Nat) (l:List Pr) (s:Str) (w:World) (hn:n ≤ 9223372036854775807) (hs:Ps w ao n l) :
  Calls Tryz.prog 184 #[.slice ao n cap,tx s] w fun e w'=>e = .returned (tx (fGet l s)) ∧ Below w.heap.size w w':=by
 obtain ⟨hlen,hcell⟩:=hs
 have HL:Hid (l.length = n):=hlen
 clear hlen
 go_enter Tryz.func184,Tryz.ntmps184
 go_wp2
 go_loopw [9] (fun i wr=>∃ j:Nat,j ≤ n ∧ i = .int .i64 j ∧ Hid (fGet l s = fGet (l.drop j) s) ∧ Below w.heap.size w wr) (fun i _=>n - (intOf i).toNat)
 case atStart=>exact ⟨0,by omega,rfl,rfl,Below.refl _ _⟩
 case round=>
  obtain ⟨j,hj,rfl,hg,hb⟩:=hrel
  by_cases hlt:j < n
  ·
   obtain ⟨b,off,rfl,hc⟩:=hcell (by omega)
   have hc0:=(hc j hlt).1
   have hc1:=(hc j hlt).2
   have k0:=(hb.cell (p:=⟨b,off + j * 2,none⟩) (World.block_lt_of_cell? _ _ hc0)).trans hc0
   have k1:=(hb.cell (p:=⟨b,off + j * 2 + 1,none⟩) (World.block_lt_of_cell? _ _ hc1)).trans hc1
   have hlt':j < l.length:=by rw [HL.out];exact hlt
   have HSk:Hid _:=zii (n:=s) hlt'
   have HHi:Hid _:=zkb (n:=s) hlt'
   clear hc hcell hc0 hc1 hlt'
   have hb1:∀ o,Below w.heap.size w (wr.alloc o):=bal hb
   generalize l.getD j ([],[]) = p at *
   obtain ⟨p1,p2⟩:=p
   dsimp only at *
   by_cases he:p1 = s
   ·
    have he':(p1 == s) = true:=by simpa using he
    have HR:Hid (fGet l s = p2):=by show _ = _;rw [hg.out,HHi.out he]
    clear he HSk HHi hg
    go_wp2
    go_ret
    exact ⟨by rw [HR.out];rfl,hb1 _⟩
   have he':(p1 == s) = false:=by simpa using he
   have HR:Hid (fGet l s = fGet (l.drop (j + 1)) s):=by show _ = _;rw [hg.out,HSk.out he]
   clear he HSk HHi hg
   go_wp2
   go_roundw
   case rel=>exact ⟨j + 1,by omega,by go_num,HR,hb1 _⟩
   case measure=>simp [intOf];omega
  have HR:Hid (fGet l s = []):=by
   show _ = _
   rw [hg.out,List.drop_eq_nil_of_le (by rw [HL.out];omega)]
   rfl
  go_wp2
  go_ret
  exact ⟨by rw [HR.out];rfl,hb⟩
open Go.RowKit
theorem below_drewN {B:Nat} {a w:World} (h:Below B a w) (k:Nat):Below B a (w.drewN k):=⟨h.os,h.tape,h.output,h.size,h.block⟩
open Go.RowKit
theorem zbh {P:Program} {f:FuncId} {args:Array Value} {w:World} {n:Nat} {v:Value} (h:Calls P f args (w.drewN n) fun e w'=>e = .returned v ∧ w.drewN n = w'):Calls P f args (w.drewN n) fun e w''=>e = .returned v ∧ ∃ m,w'' = w.drewN m:=
 h.mono fun _ _ ⟨he,hm⟩=>⟨he,n,hm.symm⟩
theorem zlk (s:Str) (w:World) (hl:s.length ≤ 9223372036854775807):Calls Tryz.prog 336 #[tx s] w fun e w'=>e = .returned (.bool (fVal s)) ∧ w = w':=by
 have hc:=zdj s
 unfold fVal
 by_cases h1:1 ≤ s.length
 ·
  have h1':(1:Int) ≤ s.length:=by omega
  by_cases h2:s.length ≤ 30
  ·
   have h2':(s.length:Int) ≤ 30:=by omega
   generalize s.contains 10 = r at *
   go_enter Tryz.func336,Tryz.ntmps336
   go_wp2_with (go_at_call 207;refine (hc _).mono ?_;rintro e w' ⟨rfl,rfl⟩)
   go_ret
   exact ⟨by simp [h1,h2],rfl⟩
  have h2':¬ (s.length:Int) ≤ 30:=by omega
  go_enter Tryz.func336,Tryz.ntmps336
  go_wp2
  go_ret
  exact ⟨by simp,rfl⟩
 have h1':¬ (1:Int) ≤ s.length:=by omega
 go_enter Tryz.func336,Tryz.ntmps336
 go_wp2
 go_ret
 exact ⟨by simp,rfl⟩
theorem is_not {l:List Pr} {j:Nat} (hj:j < l.length) (h:okAt l j = false):fIs l = false:=by
 cases hi:fIs l with
 | false=>rfl
 | true=>
  unfold fIs at hi
  rw [Bool.and_eq_true] at hi
  rw [List.all_eq_true.1 hi.2 j (List.mem_range.2 hj)] at h
  cases h
theorem is_all {l:List Pr} (h8:l.length ≤ 8) (h:∀ i,i < l.length → okAt l i = true):fIs l = true:=by
 unfold fIs
 rw [Bool.and_eq_true]
 exact ⟨decide_eq_true h8,List.all_eq_true.2 fun i hi=>h i (List.mem_range.1 hi)⟩
theorem is_any (xa:Option Addr) (n c:Nat) (l:List Pr) (w:World) (hn:n ≤ 9223372036854775807) (hf:Fit l) (hx:Ps w xa n l) :
  Calls Tryz.prog 294 #[.slice xa n c] w fun e w'=>e = .returned (.bool (fIs l)) ∧ Below w.heap.size w w':=by
 obtain ⟨hla,hca⟩:=hx
 have HA:Hid (l.length = n):=hla
 clear hla
 by_cases h8:n ≤ 8
 ·
  have h8':¬ (8:Int) < n:=by omega
  go_enter Tryz.func294,Tryz.ntmps294
  go_wp2
  go_loopw [10] (fun i wr=>∃ j:Nat,j ≤ n ∧ i = .int .i64 j ∧ Hid (∀ i,i < j → okAt l i = true) ∧ Below w.heap.size w wr) (fun i _=>n - (intOf i).toNat)
  case atStart=>exact ⟨0,by omega,rfl,fun i h=>by omega,Below.refl _ _⟩
  case round=>
   obtain ⟨j,hj,rfl,ht,hb⟩:=hrel
   by_cases hlt:j < n
   ·
    obtain ⟨b1,o1,rfl,h1⟩:=hca (by omega)
    obtain ⟨c10,c11⟩:=h1 j hlt
    have k0:=(hb.cell (p:=⟨b1,o1 + j * 2,none⟩) (World.block_lt_of_cell? _ _ c10)).trans c10
    have k1:=(hb.cell (p:=⟨b1,o1 + j * 2 + 1,none⟩) (World.block_lt_of_cell? _ _ c11)).trans c11
    have HN:Hid (okAt l j = true → ∀ i,i < j + 1 → okAt l i = true):=fun h i hi=>by
     by_cases e:i = j
     ·
      rw [e];exact h
     exact ht.out i (by omega)
    have HF:Hid (okAt l j = false → fIs l = false):=is_not (by rw [HA.out];exact hlt)
    have hfa:=hf.at j
    have hnm:=fun w=>zbx (l.getD j ([],[])).1 w hfa.1
    have hvl:=fun w=>zlk (l.getD j ([],[])).2 w hfa.2
    have HO:Hid (okAt l j = (fName (l.getD j ([],[])).1 && fVal (l.getD j ([],[])).2 && (decide (j = 0) || decide ((l.getD (j - 1) ([],[])).1 < (l.getD j ([],[])).1)))):=rfl
    have hb1:∀ o,Below w.heap.size w (wr.alloc o):=bal hb
    clear hfa
    by_cases h0:j = 0
    ·
     have h0':¬ (0:Int) < j:=by omega
     have h0d:decide (0 < j) = false:=decide_eq_false (by omega)
     have HO':Hid (okAt l j = (fName (l.getD j ([],[])).1 && fVal (l.getD j ([],[])).2)):=by
      show _ = _
      rw [HO.out,h0];simp
     clear h1 hca c10 c11 HO
     generalize okAt l j = ok at *
     generalize l.getD j ([],[]) = p at *
     obtain ⟨p1,p2⟩:=p
     dsimp only at *
     cases hN:fName p1 with
     | false=>
      have HR:Hid (fIs l = false):=HF.out (by rw [HO'.out,hN];rfl)
      rw [hN] at hnm
      clear HO' HF HN hN h0
      go_wp2
      go_quiet ((first | (go_at_call 150;exact zbh (hnm _)) | (go_at_call 336;exact zbh (hvl _))))
      go_wp2
      go_ret
      exact ⟨by rw [HR.out];rfl,below_drewN (hb1 _) _⟩
     | true=>
      rw [hN] at hnm
      cases hV:fVal p2 with
      | false=>
       have HR:Hid (fIs l = false):=HF.out (by rw [HO'.out,hN,hV];rfl)
       rw [hV] at hvl
       clear HO' HF HN hN hV h0
       go_wp2
       go_quiet ((first | (go_at_call 150;exact zbh (hnm _)) | (go_at_call 336;exact zbh (hvl _))))
       go_wp2
       go_ret
       exact ⟨by rw [HR.out];rfl,below_drewN (hb1 _) _⟩
      | true=>
       have HR:Hid (∀ i,i < j + 1 → okAt l i = true):=HN.out (by rw [HO'.out,hN,hV];rfl)
       rw [hV] at hvl
       clear HO' HF HN hN hV h0
       go_wp2
       go_quiet ((first | (go_at_call 150;exact zbh (hnm _)) | (go_at_call 336;exact zbh (hvl _))))
       go_wp2
       go_roundw
       case rel=>exact ⟨j + 1,by omega,by go_num,HR,below_drewN (hb1 _) _⟩
       case measure=>simp [intOf];omega
    obtain ⟨k,rfl⟩:∃ k,j = k + 1:=⟨j - 1,by omega⟩
    obtain ⟨c00,_⟩:=h1 k (by omega)
    have kk:=(hb.cell (p:=⟨b1,o1 + k * 2,none⟩) (World.block_lt_of_cell? _ _ c00)).trans c00
    have kn:∀ o,(wr.alloc o).cell? ⟨b1,o1 + k * 2,none⟩ = some (tx (l.getD k ([],[])).1):=fun o=>((bal (Below.refl _ wr) o).cell (p:=⟨b1,o1 + k * 2,none⟩) (World.block_lt_of_cell? _ _ kk)).trans kk
    have HO':Hid (okAt l (k + 1) = (fName (l.getD (k + 1) ([],[])).1 && fVal (l.getD (k + 1) ([],[])).2 && decide ((l.getD k ([],[])).1 < (l.getD (k + 1) ([],[])).1))):=by
     show _ = _
     rw [HO.out];simp
    have h0d:decide ((0:Int) < ((k + 1:Nat):Int)) = true:=decide_eq_true (by omega)
    have hlss:=less_eq (l.getD k ([],[])).1 (l.getD (k + 1) ([],[])).1
    clear h1 hca c10 c11 HO c00 kk
    generalize okAt l (k + 1) = ok at *
    generalize l.getD (k + 1) ([],[]) = p at *
    generalize l.getD k ([],[]) = q at *
    obtain ⟨p1,p2⟩:=p
    obtain ⟨q1,q2⟩:=q
    dsimp only at *
    cases hN:fName p1 with
    | false=>
     have HR:Hid (fIs l = false):=HF.out (by rw [HO'.out,hN];rfl)
     rw [hN] at hnm
     clear HO' HF HN hN h0 hlss
     go_wp2
     go_quiet ((first | (go_at_call 150;exact zbh (hnm _)) | (go_at_call 336;exact zbh (hvl _))))
     go_wp2
     go_ret
     exact ⟨by rw [HR.out];rfl,below_drewN (hb1 _) _⟩
    | true=>
     rw [hN] at hnm
     cases hV:fVal p2 with
     | false=>
      have HR:Hid (fIs l = false):=HF.out (by rw [HO'.out,hN,hV];rfl)
      rw [hV] at hvl
      clear HO' HF HN hN hV h0 hlss
      go_wp2
      go_quiet ((first | (go_at_call 150;exact zbh (hnm _)) | (go_at_call 336;exact zbh (hvl _))))
      go_wp2
      go_ret
      exact ⟨by rw [HR.out];rfl,below_drewN (hb1 _) _⟩
     | true=>
      rw [hV] at hvl
      by_cases hq:q1 < p1
      ·
       have HR:Hid (∀ i,i < k + 1 + 1 → okAt l i = true):=HN.out (by rw [HO'.out,hN,hV];simpa using hq)
       rw [decide_eq_true hq] at hlss
       clear HO' HF HN hN hV h0 hq
       go_wp2
       go_quiet ((first | (go_at_call 150;exact zbh (hnm _)) | (go_at_call 336;exact zbh (hvl _))))
       go_wp2
       go_roundw
       case rel=>exact ⟨k + 1 + 1,by omega,by go_num,HR,below_drewN (hb1 _) _⟩
       case measure=>simp [intOf];omega
      have HR:Hid (fIs l = false):=HF.out (by rw [HO'.out,hN,hV];simpa using hq)
      rw [decide_eq_false hq] at hlss
      clear HO' HF HN hN hV h0 hq
      go_wp2
      go_quiet ((first | (go_at_call 150;exact zbh (hnm _)) | (go_at_call 336;exact zbh (hvl _))))
      go_wp2
      go_ret
      exact ⟨by rw [HR.out];rfl,below_drewN (hb1 _) _⟩
   have HT':Hid (fIs l = true):=is_all (by rw [HA.out];omega) (fun i hi=>ht.out i (by rw [HA.out] at hi;omega))
   go_wp2
   go_ret
   exact ⟨by rw [HT'.out];rfl,hb⟩
 have h8':(8:Int) < n:=by omega
 have HT':Hid (fIs l = false):=by
  show _ = _
  unfold fIs
  rw [decide_eq_false (by rw [HA.out];omega)]
  rfl
 go_enter Tryz.func294,Tryz.ntmps294
 go_wp2
 go_ret
 exact ⟨by rw [HT'.out];rfl,Below.refl _ _⟩
open Go.RowKit Go.Shelf Go.Lib Go.Sort
theorem zlv (a b:Str) (w:World):Calls Tryz.prog 371 #[tx a,tx b] w fun e w'=>e = .returned (.int .i64 (Lib.compareBytes a b)) ∧ w = w':=by
 refine (Tryz.strings_Compare ⟨a.toArray⟩ ⟨b.toArray⟩ w).mono ?_
 rintro e w' ⟨rfl,rfl⟩
 exact ⟨rfl,rfl⟩
theorem zlz (p q:Pr) (w:World):Calls Tryz.prog 327 #[.agg #[tx p.1,tx p.2],.agg #[tx q.1,tx q.2]] w fun e w'=>e = .returned (.int .i64 (Lib.compareBytes p.1 q.1)) ∧ ∃ k os',w' = grow (w.drewN k) os':=by
 have hc:=zlv p.1 q.1
 generalize Lib.compareBytes p.1 q.1 = r at hc ⊢
 go_enter Tryz.func327,Tryz.ntmps327
 go_wp2_with (go_at_call 371;refine (hc _).mono ?_;rintro e w' ⟨rfl,rfl⟩)
 go_ret
 exact ⟨rfl,0,_,by rw [alloc_eq_grow,alloc_eq_grow,grow_grow];rfl⟩
open Go.RowKit
def cellsP (l:List Pr):List Value:=l.flatMap fun p=>[tx p.1,tx p.2]
theorem zea (p:Pr) (l:List Pr):cellsP (p :: l) = tx p.1 :: tx p.2 :: cellsP l:=rfl
theorem zel (l m:List Pr):cellsP (l ++ m) = cellsP l ++ cellsP m:=by simp [cellsP]
theorem zch (l:List Pr):(cellsP l).length = l.length * 2:=by
 induction l with
 | nil=>rfl
 | cons p l ih=>rw [zea];simp;omega
theorem zck (l:List Pr):∀ u ∈ cellsP l,u.oneCell' = true:=by
 intro u hu
 induction l with
 | nil=>cases hu
 | cons p l ih=>
  rw [zea] at hu
  rcases List.mem_cons.1 hu with rfl | hu
  ·
   rfl
  rcases List.mem_cons.1 hu with rfl | hu
  ·
   rfl
  exact ih hu
theorem zdq {l:List Pr} {j:Nat} (h:j < l.length):(cellsP l)[j * 2]? = some (tx (l.getD j ([],[])).1) ∧ (cellsP l)[j * 2 + 1]? = some (tx (l.getD j ([],[])).2):=by
 induction l generalizing j with
 | nil=>simp at h
 | cons p l ih=>
  rw [zea]
  cases j with
  | zero=>simp
  | succ j=>
   have:=ih (j:=j) (by simpa using h)
   have e:(j + 1) * 2 = j * 2 + 1 + 1:=by omega
   rw [e]
   simpa using this
theorem info35:(Tryz.prog.info? 69).map (fun i=>(i.zero,i.size,i.bytes)) = some (some (.agg #[tx [],tx []]),2,32):=by kernel_rfl
theorem zbj:∃ i,Tryz.prog.info? 69 = some i ∧ i.zero = some (.agg #[tx [],tx []]) ∧ i.size = 2 ∧ i.bytes = 32:=by
 have h:=info35
 cases hi:Tryz.prog.info? 69 with
 | none=>rw [hi] at h;cases h
 | some i=>
  rw [hi] at h
  simp only [Option.map_some,Option.some.injEq,Prod.mk.injEq] at h
  exact ⟨i,rfl,h.1,h.2.1,h.2.2⟩
theorem zgt:(Value.agg #[tx [],tx []]).cells.size = 2:=by kernel_rfl
def Own (w:World) (base:Nat) (v:Value) (l:List Pr):Prop:=w.ownsRow base 69 2 v l.length (cellsP l)
theorem Own.slice {w:World} {base:Nat} {v:Value} {l:List Pr} (h:Own w base v l):∃ ao cap,v = .slice ao l.length cap ∧ Ps w ao l.length l ∧ l.length ≤ cap:=by
 rcases h.2 with ⟨rfl,h0⟩ | ⟨g,cap,cur,rfl,hb,hg,hn,_,hs,ht⟩
 ·
  have:l = []:=List.length_eq_zero_iff.1 h0
  subst this
  exact ⟨none,0,rfl,Ps.nil _ _,Nat.le_refl _⟩
 refine ⟨_,cap,rfl,⟨rfl,fun _=>⟨g,0,rfl,fun j hj=>?_⟩⟩,hn⟩
 have e:∀ i,i < l.length * 2 → w.cell? ⟨g,0 + i,none⟩ = (cellsP l)[i]?:=fun i hi=>by
  rw [cell_of_row _ _ _ _ _ _ hg,← ht,List.getElem?_take_of_lt hi,Nat.zero_add]
  exact (Array.getElem?_toList).symm
 obtain ⟨g1,g2⟩:=zdq hj
 exact ⟨(e _ (by omega)).trans g1,(e (j * 2 + 1) (by omega)).trans g2⟩
theorem Own.later {w w':World} {base:Nat} {v:Value} {l:List Pr} (h:Own w base v l) (hb:Below w.heap.size w w'):Own w' base v l:=by
 refine ⟨h.1,?_⟩
 rcases h.2 with h0 | ⟨g,cap,cur,hv,hg0,hg,hn,hm,hs,ht⟩
 ·
  exact Or.inl h0
 have hlt:g < w.heap.size:=by
  by_cases hlt:g < w.heap.size
  ·
   exact hlt
  rw [Array.getElem?_eq_none (by omega)] at hg;cases hg
 exact Or.inr ⟨g,cap,cur,hv,hg0,(hb.block g hlt).trans hg,hn,hm,hs,ht⟩
theorem Box.cells {w:World} {b:Nat} {p:Pr} (h:Box w b p):∀ i u,(cellsP [p])[i]? = some u → w.cell? ((⟨b,0,none⟩:Addr).add i) = some u:=by
 intro i u hu
 rw [Addr.add_lit,Nat.zero_add]
 match i,hu with
 | 0,hu=>rw [h.c0];exact hu
 | 1,hu=>rw [h.c1];exact hu
 | i + 2,hu=>simp [cellsP] at hu
theorem Own.snoc {w:World} {base:Nat} {v:Value} {l:List Pr} {p:Pr} (h:w.ownsRow base 69 2 v (l.length + 1) (cellsP l ++ cellsP [p])):Own w base v (l ++ [p]):=by
 unfold Own
 rw [zel,List.length_append]
 exact h
theorem zfs {l:List Pr} {f:Pr → Bool} {j:Nat} (hj:j < l.length) (h:f (l.getD j ([],[])) = true):(l.take (j + 1)).filter f = (l.take j).filter f ++ [l.getD j ([],[])]:=by
 rw [zca hj] at *
 rw [List.take_succ_eq_append_getElem hj,List.filter_append]
 simp [h]
theorem zgo {l:List Pr} {f:Pr → Bool} {j:Nat} (hj:j < l.length) (h:f (l.getD j ([],[])) = false):(l.take (j + 1)).filter f = (l.take j).filter f:=by
 rw [zca hj] at *
 rw [List.take_succ_eq_append_getElem hj,List.filter_append]
 simp [h]
theorem zmz (xa:Option Addr) (n c:Nat) (l:List Pr) (g:Nat) (cb:Array Value) (f:Pr → Bool) (w:World) (hn:n ≤ 1000000) (hx:Ps w xa n l)
  (eg:∀ args w,(callFunc g args).run Tryz.prog w = .ok (.enter g args) w)
  (hp:∀ p W,Below w.heap.size w W → Calls Tryz.prog g (#[.agg #[tx p.1,tx p.2]] ++ cb) W fun e w'=>e = .returned (.bool (f p)) ∧ Below W.heap.size W w') :
  Calls Tryz.prog 287 #[.slice xa n c,.func (.func g) #[] cb] w fun e w'=>∃ v,e = .returned v ∧ Own w' w.heap.size v (l.filter f) ∧ Below w.heap.size w w':=by
 obtain ⟨i0,hi,hz0,hz1,hz2⟩:=zbj
 obtain ⟨hla,hca⟩:=hx
 have HA:Hid (l.length = n):=hla
 clear hla
 have HP:Aside _:=hp
 clear hp
 go_enter Tryz.func287,Tryz.ntmps287
 go_wp2
 go_loopw [11,5] (fun i v wr=>∃ j:Nat,j ≤ n ∧ i = .int .i64 j ∧ Own wr w.heap.size v ((l.take j).filter f) ∧ Below w.heap.size w wr) (fun i _ _=>n - (intOf i).toNat)
 case atStart=>exact ⟨0,by omega,rfl,World.ownsRow_made w #[] 0 (Nat.le_refl _) (Nat.zero_le _) (by simp),bal (Below.refl _ _) _⟩
 case round=>
  obtain ⟨j,hj,rfl,ho,hb⟩:=hrel
  by_cases hlt:j < n
  ·
   obtain ⟨b1,o1,rfl,h1⟩:=hca (by omega)
   obtain ⟨c10,c11⟩:=h1 j hlt
   have k0:=(hb.cell (p:=⟨b1,o1 + j * 2,none⟩) (World.block_lt_of_cell? _ _ c10)).trans c10
   have k1:=(hb.cell (p:=⟨b1,o1 + j * 2 + 1,none⟩) (World.block_lt_of_cell? _ _ c11)).trans c11
   have hlt':j < l.length:=by rw [HA.out];exact hlt
   have HY:Hid _:=zfs (f:=f) hlt'
   have HN:Hid _:=zgo (f:=f) hlt'
   have hle:((l.take j).filter f).length ≤ j:=Nat.le_trans (List.length_filter_le _ _) (List.length_take_le _ _)
   clear h1 hca c10 c11 hlt'
   generalize l.getD j ([],[]) = p at *
   have hbx:=Box.new wr p
   have hb1:=bal hb (.cells #[tx p.1,tx p.2] 69)
   have ho1:=ho.later (bal (Below.refl _ _) (.cells #[tx p.1,tx p.2] 69))
   cases hfp:f p with
   | false=>
    have HN':=HN.out hfp
    have HN2:Hid _:=HN'
    clear HN HY HN'
    go_wp2_with (go_at_fn g;refine (HP.out p _ hb1).mono ?_;rw [hfp];rintro e w1 ⟨rfl,hb2⟩)
    go_roundw
    case rel=>exact ⟨j + 1,by omega,by go_num,by rw [HN2.out];exact ho1.later hb2,Below.chain hb1 hb2⟩
    case measure=>simp [intOf];omega
   | true=>
    have HN':=HY.out hfp
    have HN2:Hid _:=HN'
    clear HN HY HN'
    go_wp2_with (first | (go_at_fn g;refine (HP.out p _ hb1).mono ?_;rw [hfp];rintro e w1 ⟨rfl,hb2⟩;obtain ⟨d0,d1,_,_⟩:=hbx.later hb2;have ho3:=(ho1.later hb2).later (bal (Below.refl _ _) (.cells #[tx p.1,tx p.2] 69));have hbx3:=Box.new w1 p) | (at_builtin;go_must (refine wpList_append_own _ rfl _ _ 63 rfl w.heap.size 69 i0 (.agg #[tx [],tx []]) 2 32 Tryz.underlying63 hi hz0 hz1 hz2 zgt (by decide) _ _ _ rfl ho3 ⟨w1.heap.size,0,none⟩ 1 1 (cellsP [p]) rfl rfl ?hnews (zck _) ?h63 ?hby ?hbs ?_)))
    case hnews=>exact fun i u hu=>hbx3.cells i u hu
    case h63=>unfold maxLen;omega
    case hby=>omega
    case hbs=>exact (bal (Below.chain hb1 hb2) _).size
    intro v' w2 ho4 hg4 _
    go_wp2
    go_roundw
    case rel=>exact ⟨j + 1,by omega,by go_num,by rw [HN2.out];exact Own.snoc ho4,(bal (Below.chain hb1 hb2) _).grown hg4 (bal (Below.chain hb1 hb2) _).size (fun k hk=>(World.ownsRow.lt ho3 k hk).1)⟩
    case measure=>simp [intOf];omega
  have HR:Hid ((l.take j).filter f = l.filter f):=by show _ = _;rw [List.take_of_length_le (by rw [HA.out];omega)]
  rw [HR.out] at ho
  go_wp2
  go_ret
  exact ⟨_,rfl,ho,hb⟩
open Go.RowKit
theorem clone_any (xa:Option Addr) (n c:Nat) (l:List Pr) (w:World) (hn:n ≤ 1000000) (hx:Ps w xa n l) :
  Calls Tryz.prog 325 #[.slice xa n c] w fun e w'=>∃ v,e = .returned v ∧ Own w' w.heap.size v l ∧ Below w.heap.size w w':=by
 obtain ⟨i0,hi,hz0,hz1,hz2⟩:=zbj
 have q23:∀ (w:World) (a:Option Addr) (n c n' c':Nat),(binOp .eql 63 (.slice a n c) (.slice none n' c')).run Tryz.prog w = .ok (.bool a.isNone) w:=fun w a n c n' c'=>Lib.run_eql_slice_nil w _ _ a n c n' c' Tryz.underlying63
 have hlen:=hx.1
 cases xa with
 | none=>
  have h0:n = 0:=by
   by_cases h:0 < n
   ·
    obtain ⟨_,_,e,_⟩:=hx.2 h;cases e
   omega
  subst h0
  obtain rfl:l = []:=List.length_eq_zero_iff.1 hlen
  go_enter Tryz.func325,Tryz.ntmps325
  go_wp2
  go_ret
  exact ⟨_,rfl,⟨rfl,Or.inl ⟨rfl,rfl⟩⟩,Below.refl _ _⟩
 | some ad=>
  have hc:∀ j u,(cellsP l)[j]? = some u → w.cell? (ad.add j) = some u:=by
   intro j u hu
   have hj:j < l.length * 2:=by
    by_cases h:j < l.length * 2
    ·
     exact h
    rw [List.getElem?_eq_none (by rw [zch];omega)] at hu;cases hu
   obtain ⟨b,off,e,h4⟩:=hx.2 (by omega)
   cases e
   rw [Addr.add_lit]
   have hjd:j / 2 < l.length:=by omega
   obtain ⟨g1,g2⟩:=zdq hjd
   obtain ⟨k1,k2⟩:=h4 (j / 2) (by omega)
   rcases Nat.mod_two_eq_zero_or_one j with hm | hm
   ·
    have e:j / 2 * 2 = j:=by omega
    rw [e] at g1 k1
    rw [k1,← hu,g1]
   have e:j / 2 * 2 + 1 = j:=by omega
   rw [Nat.add_assoc,e] at k2
   rw [e] at g2
   rw [k2,← hu,g2]
  have HC:Aside _:=hc
  have HL:Hid _:=hlen
  clear hc hlen
  go_enter Tryz.func325,Tryz.ntmps325
  go_wp2_with (at_builtin;go_must (refine wpList_append_own _ rfl _ _ 63 rfl w.heap.size 69 i0 (.agg #[tx [],tx []]) 2 32 Tryz.underlying63 hi hz0 hz1 hz2 zgt (by decide) _ _ _ rfl (World.ownsRow_made w #[] 0 (Nat.le_refl _) (Nat.zero_le _) (by simp)) ad n c (cellsP l) rfl ?q1 ?q2 (zck _) ?q3 ?q4 ?q5 ?_))
  case q1=>rw [zch,HL.out]
  case q2=>exact fun j u hu=>((bal (Below.refl _ w) _).cell (p:=ad.add j) (World.block_lt_of_cell? _ _ (HC.out j u hu))).trans (HC.out j u hu)
  case q3=>unfold maxLen;omega
  case q4=>omega
  case q5=>simp
  intro v' w1 hown hgrow _
  go_wp2
  go_ret
  refine ⟨v',rfl,?_,(bal (Below.refl _ _) _).grown hgrow (by simp) (by intro k hk;simp [Value.ownBlock] at hk;omega)⟩
  unfold Own
  rw [HL.out]
  simpa using hown
/-! ### Sorted by names -/
def encP (p:Pr):List Value:=[tx p.1,tx p.2]
theorem zlx (l:List Pr) (t:Nat) (h:t < l.length * 2):(cellsP l)[t]? = some (Sort.flatK encP 2 l.toArray)[t]!:=by
 rw [Sort.get_flatK _ _ _ _ (by simpa using h)]
 have hd:t / 2 < l.length:=by omega
 obtain ⟨g1,g2⟩:=zdq hd
 have e0:l.toArray[t / 2]! = l.getD (t / 2) ([],[]):=by
  rw [getElem!_pos l.toArray (t / 2) (by simpa using hd),zca hd]
  rfl
 rw [e0]
 rcases Nat.mod_two_eq_zero_or_one t with hm | hm
 ·
  have e:t / 2 * 2 = t:=by omega
  rw [e] at g1
  rw [g1,hm]
  rfl
 have e:t / 2 * 2 + 1 = t:=by omega
 rw [e] at g2
 rw [g2,hm]
 rfl
theorem Own.holds {w:World} {base g n cap:Nat} {l:List Pr} (h:Own w base (.slice (some ⟨g,0,none⟩) n cap) l):Sort.HoldsK encP 2 w g 0 l.toArray ∧ n = l.length ∧ base ≤ g ∧ g < w.heap.size:=by
 have h':=h
 rcases h.2 with ⟨e,_⟩ | ⟨g',cap',cur,e,hb,hg,hn,_,hs,ht⟩
 ·
  cases e
 cases e
 have hlt:g < w.heap.size:=by
  by_cases hlt:g < w.heap.size
  ·
   exact hlt
  rw [Array.getElem?_eq_none (by omega)] at hg;cases hg
 refine ⟨fun j hj=>?_,rfl,hb,hlt⟩
 rw [Sort.size_flatK] at hj
 have hj':j < l.length * 2:=by simpa using hj
 refine ⟨?_,?_⟩
 ·
  rw [cell_of_row _ _ _ _ _ _ hg,Nat.zero_add]
  show _ = some (Sort.flatK encP 2 l.toArray)[j]!
  rw [← zlx l j hj',← ht,List.getElem?_take_of_lt hj']
  exact (Array.getElem?_toList).symm
 exact World.ownsRow.frozenAt h' (0 + j)
theorem Ps.of_holds {w:World} {g:Nat} {d:Array Pr} (h:Sort.HoldsK encP 2 w g 0 d):Ps w (some ⟨g,0,none⟩) d.size d.toList:=by
 refine ⟨by simp,fun _=>⟨g,0,rfl,fun j hj=>?_⟩⟩
 have e0:d[j]! = d.toList.getD j ([],[]):=by
  rw [getElem!_pos d j hj,zca (by simpa using hj)]
  rfl
 have h0:=(Sort.HoldsK.cell h (i:=j) (c:=0) hj (by omega)).1
 have h1:=(Sort.HoldsK.cell h (i:=j) (c:=1) hj (by omega)).1
 rw [e0] at h0 h1
 exact ⟨h0,h1⟩
def nameF (p q:Pr):Int:=Lib.compareBytes p.1 q.1
theorem zev (p q:Pr):ltOf nameF p q = decide (p.1 < q.1):=by
 unfold ltOf nameF
 exact cmpB_lt p.1 q.1
theorem zmi:Sort.SWO (ltOf nameF):=by
 refine ⟨fun x=>?_,fun x y z h1 h2=>?_,fun x y z h1 h2=>?_⟩
 ·
  rw [zev];exact decide_eq_false (zeq _)
 ·
  rw [zev,decide_eq_true_iff] at *
  exact zdg h1 h2
 rw [zev,decide_eq_false_iff_not] at *
 intro h
 by_cases k:y.1 < z.1
 ·
  exact h2 k
 by_cases k2:z.1 < y.1
 ·
  exact h1 (zdg h k2)
 rw [← zft k k2] at h;exact h1 h
theorem zjo (blk off size:Nat) (w:World):CmpLays Tryz.prog 327 #[] encP 2 nameF blk off size w:=fun _ _ _ _ x y=>zlz x y _
theorem znm:∀ args w,(callFunc 327 args).run Tryz.prog w = .ok (.enter 327 args) w:=enters_of Tryz.func327 (by kernel_rfl) rfl
theorem zhn {B g m:Nat} {w0 w:World} {d:Array Pr} {os:Array Obj} (h:Below B w0 w) (hg:B ≤ g) (hB:B ≤ w.heap.size):Below B w0 (sortWorldK encP 2 w g 0 m d os):=by
 have h1:Below B w0 (Sort.putRowK encP 2 (Sort.ahead w m) g 0 d):=Lib.below_putRow h hg
 have hs:(Sort.putRowK encP 2 (Sort.ahead w m) g 0 d).heap.size = w.heap.size:=by
  show (Sort.putRow id (Sort.ahead w m) g 0 _).heap.size = _
  rw [Sort.size_putRow]
  rfl
 exact h1.trans (Lib.below_grow B _ (by rw [hs];exact hB) 0 os)
theorem sort_any (v:Value) (base:Nat) (l:List Pr) (w0 w:World) (ho:Own w base v l) (hn:l.length ≤ 1000000) (hb:Below base w0 w) (hB:base ≤ w0.heap.size) :
  Calls Tryz.prog 326 #[v,.func (.func 327) #[] #[]] w fun e w'=>e = .returned (.tuple #[]) ∧ ∃ ao cap m,v = .slice ao l.length cap ∧ Ps w' ao l.length m ∧ m.Perm l ∧ sortedN m ∧ Below base w0 w':=by
 rcases ho.2 with ⟨rfl,h0⟩ | ⟨g,cap,cur,rfl,_⟩
 ·
  obtain rfl:l = []:=List.length_eq_zero_iff.1 h0
  have hcon:=AnyF.slices_SortFunc_none Tryz.sortP none 0 (.func (.func 327) #[] #[]) w
  change Calls Tryz.prog 326 _ _ _ at hcon
  refine hcon.mono ?_
  rintro e w' ⟨rfl,rfl⟩
  exact ⟨rfl,none,0,[],rfl,Ps.nil _ _,List.Perm.refl _,List.Pairwise.nil,hb⟩
 obtain ⟨hH,_,hbg,hlt⟩:=Own.holds ho
 have hcon:=AnyQ.slices_SortFunc Tryz.sortP 2 Tryz.isAgg69 Tryz.sizeOf69 encP (fun _=>rfl) (fun x u hu=>by simp [encP] at hu;rcases hu with rfl | rfl <;> rfl) nameF zmi 327 #[] g 0 cap l.toArray w znm (zjo g 0 _ w) hH hlt (by simp;omega)
 change Calls Tryz.prog 326 _ _ _ at hcon
 have es:l.toArray.size = l.length:=by simp
 rw [es] at hcon
 refine hcon.mono ?_
 rintro e w' ⟨rfl,d',n,os,hp,hs,rfl⟩
 have hsz:d'.size = l.length:=by rw [hp.1];simp
 have hH':=holdsK_sortWorldK_c encP 2 w g 0 l.toArray d' n os hH hlt (by rw [hsz];simp)
 have hps:=Ps.of_holds hH'
 rw [hsz] at hps
 refine ⟨rfl,_,_,d'.toList,rfl,hps,?_,?_,zhn hb hbg (Nat.le_trans hB hb.size)⟩
 ·
  have h2:=hp.2.2
  have e1:(d'.extract 0 l.length) = d':=by rw [← hsz];exact Array.extract_size
  have e2:(l.toArray.extract 0 l.length) = l.toArray:=by rw [← es];exact Array.extract_size
  rw [e1,e2] at h2
  exact h2
 unfold sortedN
 rw [List.pairwise_iff_getElem]
 intro i j hi hj hij
 simp at hi hj
 have:=hs i j (Nat.zero_le _) hij (by omega)
 rw [zev,decide_eq_false_iff_not,getElem!_pos d' i (by omega),getElem!_pos d' j (by omega)] at this
 exact this
open Go.RowKit
theorem Own.base {w:World} {b b':Nat} {v:Value} {l:List Pr} (h:Own w b' v l) (hb:b ≤ b'):Own w b v l:=by
 refine ⟨h.1,?_⟩
 rcases h.2 with h0 | ⟨g,cap,cur,hv,hg0,r⟩
 ·
  exact Or.inl h0
 exact Or.inr ⟨g,cap,cur,hv,Nat.le_trans hb hg0,r⟩
theorem Own.none (w:World) (b:Nat):Own w b (.slice none 0 0) []:=⟨rfl,Or.inl ⟨rfl,rfl⟩⟩
theorem Fit.perm {l m:List Pr} (h:Fit l) (hp:m.Perm l):Fit m:=fun p hm=>h p (hp.mem_iff.1 hm)
theorem Fit.filter {l:List Pr} (h:Fit l) (f:Pr → Bool):Fit (l.filter f):=fun p hm=>h p (List.mem_filter.1 hm).1
theorem adj_twice {l m:List Pr} (hp:m.Perm l) {j:Nat} (hj:j + 1 < m.length) (h:(m.getD j ([],[])).1 = (m.getD (j + 1) ([],[])).1):twice l = true:=by
 unfold twice
 rw [Bool.not_eq_true',decide_eq_false_iff_not]
 intro hn
 have hn':(m.map (·.1)).Nodup:=(hp.map (·.1)).nodup_iff.2 hn
 rw [zca (show j < m.length by omega),zca hj] at h
 rw [List.Nodup,List.pairwise_map,List.pairwise_iff_getElem] at hn'
 exact hn' j (j + 1) (by omega) hj (by omega) h
theorem adj_done {l m:List Pr} (hp:m.Perm l) (hs:sortedN m) (h:∀ i,i + 1 < m.length → (m.getD i ([],[])).1 ≠ (m.getD (i + 1) ([],[])).1):twice l = false ∧ srt (full l) = full m:=by
 have hr:rises m:=zms fun i h0 hi=>by
  obtain ⟨k,rfl⟩:∃ k,i = k + 1:=⟨i - 1,by omega⟩
  have h1:=h k hi
  have h2:¬ (m.getD (k + 1) ([],[])).1 < (m.getD k ([],[])).1:=by
   rw [zca hi,zca (show k < m.length by omega)]
   unfold sortedN at hs
   rw [List.pairwise_iff_getElem] at hs
   exact hs k (k + 1) (by omega) hi (by omega)
  show (m.getD k ([],[])).1 < _
  by_cases h3:(m.getD k ([],[])).1 < (m.getD (k + 1) ([],[])).1
  ·
   exact h3
  exact absurd (zft h3 h2) h1
 have hn:(l.map (·.1)).Nodup:=(hp.map (·.1)).nodup_iff.1 (zcx hr)
 refine ⟨by unfold twice;simpa using hn,?_⟩
 exact srt_of (hp.filter _) (zff hr _)
theorem zjz (p:Pr) (w:World):Calls Tryz.prog 328 #[.agg #[tx p.1,tx p.2]] w fun e w'=>e = .returned (.bool (!p.2.isEmpty)) ∧ Below w.heap.size w w':=by
 obtain ⟨a,b⟩:=p
 cases b with
 | nil=>
  go_enter Tryz.func328,Tryz.ntmps328
  go_wp2
  go_ret
  exact ⟨rfl,bal (Below.refl _ _) _⟩
 | cons c r=>
  go_enter Tryz.func328,Tryz.ntmps328
  go_wp2
  go_ret
  exact ⟨rfl,bal (Below.refl _ _) _⟩
theorem enters42:∀ args w,(callFunc 328 args).run Tryz.prog w = .ok (.enter 328 args) w:=enters_of Tryz.func328 (by kernel_rfl) rfl
theorem zna (xa:Option Addr) (n c:Nat) (l:List Pr) (w:World) (hn:n ≤ 1000000) (hf:Fit l) (hx:Ps w xa n l) :
  Calls Tryz.prog 285 #[.slice xa n c] w fun e w'=>∃ v,e = .returned (.tuple #[v,.int .i64 (makeE l)]) ∧ Own w' w.heap.size v (makeL l) ∧ Below w.heap.size w w':=by
 have HL:Hid (l.length = n):=hx.1
 go_enter Tryz.func285,Tryz.ntmps285
 go_wp2_with fail
 refine (clone_any xa n c l w hn hx).mono ?_
 rintro e w1 ⟨v,rfl,ho1,hb1⟩
 have hs:=sort_any v w.heap.size l w w1 ho1 (by rw [HL.out];exact hn) hb1 (Nat.le_refl _)
 obtain ⟨ao,cap,rfl,_,_⟩:=ho1.slice
 go_wp2_with fail
 refine hs.mono ?_
 rintro e w2 ⟨rfl,ao',cap',m,he,hps,hp,hsrt,hb2⟩
 cases he
 rw [HL.out] at hps
 rw [HL.out]
 have HM:Hid (m.length = n):=hps.1
 have hps':=hps
 obtain ⟨_,hcell⟩:=hps'
 have HP:Hid (m.Perm l):=hp
 have HS:Hid (sortedN m):=hsrt
 clear hs hx hp hsrt
 go_wp2_with fail
 go_loopw [5] (fun i wr=>∃ j k:Nat,(j < n ∨ n = 0 ∧ j = 0) ∧ i = .int .i64 (j + 1:Nat) ∧ Hid (∀ i,i < j → (m.getD i ([],[])).1 ≠ (m.getD (i + 1) ([],[])).1) ∧ wr = w2.drewN k) (fun i _=>n + 1 - (intOf i).toNat)
 case atStart=>exact ⟨0,0,by omega,rfl,fun i h=>by omega,rfl⟩
 case round=>
  obtain ⟨j,k,hj,rfl,ht,rfl⟩:=hrel
  by_cases hlt:j + 1 < n
  ·
   obtain ⟨b1,o1,rfl,h1⟩:=hcell (by omega)
   obtain ⟨c0,_⟩:=h1 j (by omega)
   obtain ⟨c1,_⟩:=h1 (j + 1) hlt
   have HT:Hid ((m.getD j ([],[])).1 = (m.getD (j + 1) ([],[])).1 → twice l = true):=adj_twice HP.out (by rw [HM.out];exact hlt)
   have HN:Hid ((m.getD j ([],[])).1 ≠ (m.getD (j + 1) ([],[])).1 → ∀ i,i < j + 1 → (m.getD i ([],[])).1 ≠ (m.getD (i + 1) ([],[])).1):=fun h i hi=>by
    by_cases e:i = j
    ·
     rw [e];exact h
    exact ht.out i (by omega)
   clear h1 hcell
   generalize (m.getD j ([],[])).1 = p at *
   generalize (m.getD (j + 1) ([],[])).1 = q at *
   by_cases hpq:p = q
   ·
    have HE:Hid (makeE l = 31):=by show _ = _;unfold makeE;rw [if_pos (HT.out hpq)]
    have HLL:Hid (makeL l = []):=by show _ = _;unfold makeL;rw [HE.out];rfl
    have hpq':(p == q) = true:=by simpa using hpq
    clear HT HN hpq
    go_wp2
    go_quiet (fail)
    go_wp2
    go_ret2
    exact ⟨_,by rw [HE.out];rfl,by rw [HLL.out];exact Own.none _ _,below_drewN (below_drewN hb2 _) _⟩
   have HR:Hid (∀ i,i < j + 1 → (m.getD i ([],[])).1 ≠ (m.getD (i + 1) ([],[])).1):=HN.out hpq
   have hpq':(p == q) = false:=by simpa using hpq
   clear HT HN hpq
   go_wp2
   go_quiet (fail)
   go_wp2
   go_roundw
   case rel=>exact ⟨j + 1,_,by omega,by go_num,HR,rfl⟩
   case measure=>simp [intOf];omega
  have HD:=adj_done HP.out HS.out (fun i hi=>ht.out i (by rw [HM.out] at hi;omega))
  have HD1:Hid (twice l = false):=HD.1
  have HD2:Hid (srt (full l) = full m):=HD.2
  clear HD ht
  have hbk:Below w2.heap.size w2 (w2.drewN k):=below_drewN (Below.refl _ _) _
  have hon:=zmz ao n cap m 328 #[] (fun p=>!p.2.isEmpty) (w2.drewN k) hn (hps.later hbk) enters42 (fun p W _=>zjz p W)
  go_wp2_with fail
  refine hon.mono ?_
  rintro e w3 ⟨v3,rfl,ho3,hb3⟩
  have ho3':Own w3 (w2.drewN k).heap.size v3 (full m):=ho3
  obtain ⟨ao3,cap3,rfl,hps3,_⟩:=ho3'.slice
  have hle:(full m).length ≤ 1000000:=Nat.le_trans (List.length_filter_le _ _) (by rw [HM.out];exact hn)
  have his:=is_any ao3 (full m).length cap3 (full m) w3 (by omega) (Fit.filter (Fit.perm hf HP.out) _) hps3
  have hb23:Below w.heap.size w w3:=(below_drewN hb2 k).trans (hb3.mono (below_drewN hb2 k).size)
  have ho4:Own w3 w.heap.size (.slice ao3 (full m).length cap3) (full m):=ho3'.base (below_drewN hb2 k).size
  clear hon ho3 ho3'
  cases hi:fIs (full m) with
  | true=>
   rw [hi] at his
   have HE:Hid (makeE l = 0):=by show _ = _;unfold makeE;rw [HD1.out,HD2.out,if_neg (by simp),if_pos hi]
   have HLL:Hid (makeL l = full m):=by show _ = _;unfold makeL;rw [HE.out,if_pos rfl,HD2.out]
   clear hi
   go_wp2_with fail
   refine his.mono ?_
   rintro e w4 ⟨rfl,hb4⟩
   go_wp2
   go_ret2
   exact ⟨_,by rw [HE.out];rfl,by rw [HLL.out];exact ho4.later hb4,hb23.trans (hb4.mono hb23.size)⟩
  | false=>
   rw [hi] at his
   have HE:Hid (makeE l = 30):=by show _ = _;unfold makeE;rw [HD1.out,HD2.out,if_neg (by simp),if_neg (by rw [hi];simp)]
   have HLL:Hid (makeL l = []):=by show _ = _;unfold makeL;rw [HE.out];rfl
   clear hi
   go_wp2_with fail
   refine his.mono ?_
   rintro e w4 ⟨rfl,hb4⟩
   go_wp2
   go_ret2
   exact ⟨_,by rw [HE.out];rfl,by rw [HLL.out];exact Own.none _ _,hb23.trans (hb4.mono hb23.size)⟩
theorem zit (p:Pr) (bx:Nat) (ao:Option Addr) (n c:Nat) (l:List Str) (w:World) (hn:n ≤ 9223372036854775807) (h:Ss w ao n l) (hb:w.cell? ⟨bx,0,none⟩ = some (.slice ao n c)) :
  Calls Tryz.prog 288 #[.agg #[tx p.1,tx p.2],.pointer (some ⟨bx,0,none⟩)] w fun e w'=>e = .returned (.bool (!decide (p.1 = nm) && !l.contains p.1)) ∧ Below w.heap.size w w':=by
 have hi:=in_any ao n c l p.1
 have hlt:=World.block_lt_of_cell? _ _ hb
 have hk:∀ o,(w.alloc o).cell? ⟨bx,0,none⟩ = some (.slice ao n c):=fun o=>((bal (Below.refl _ w) o).cell (p:=⟨bx,0,none⟩) hlt).trans hb
 have hb1:∀ o,Below w.heap.size w (w.alloc o):=bal (Below.refl _ _)
 generalize l.contains p.1 = r at *
 obtain ⟨p1,p2⟩:=p
 dsimp only at *
 by_cases hp:p1 = nm
 ·
  have hp':(p1 == [95,95,110,97,109,101,95,95]) = true:=by simpa [nm] using hp
  have HP:Hid (decide (p1 = nm) = true):=decide_eq_true hp
  rw [HP.out]
  clear hp
  go_enter Tryz.func288,Tryz.ntmps288
  go_wp2
  go_ret
  exact ⟨rfl,hb1 _⟩
 have hp':(p1 == [95,95,110,97,109,101,95,95]) = false:=by simpa [nm] using hp
 have HP:Hid (decide (p1 = nm) = false):=decide_eq_false hp
 rw [HP.out]
 clear hp
 go_enter Tryz.func288,Tryz.ntmps288
 go_wp2_with (go_at_call 263;refine (hi _ hn (h.later (hb1 _))).mono ?_;rintro e w' ⟨rfl,rfl⟩)
 go_ret
 exact ⟨by simp,hb1 _⟩
theorem enters38:∀ args w,(callFunc 288 args).run Tryz.prog w = .ok (.enter 288 args) w:=enters_of Tryz.func288 (by kernel_rfl) rfl
theorem without_any (xa:Option Addr) (n c:Nat) (l:List Pr) (ya:Option Addr) (m d:Nat) (ns:List Str) (w:World) (hn:n ≤ 1000000) (hm:m ≤ 9223372036854775807) (hx:Ps w xa n l) (hy:Ss w ya m ns) :
  Calls Tryz.prog 240 #[.slice xa n c,.slice ya m d] w fun e w'=>∃ v,e = .returned v ∧ Own w' w.heap.size v (fWithout l ns) ∧ Below w.heap.size w w':=by
 have hb0:=bal (Below.refl _ w) (.cells #[.slice ya m d] 25)
 have hbx:(w.alloc (.cells #[.slice ya m d] 25)).cell? ⟨w.heap.size,0,none⟩ = some (.slice ya m d):=World.cell?_alloc_new w _ _ 0
 have hon:=zmz xa n c l 288 #[.pointer (some ⟨w.heap.size,0,none⟩)] (fun p=>!decide (p.1 = nm) && !ns.contains p.1) (w.alloc (.cells #[.slice ya m d] 25)) hn (hx.later hb0) enters38
  (fun p W hW=>zit p w.heap.size ya m d ns W hm ((hy.later hb0).later hW) ((hW.cell (p:=⟨w.heap.size,0,none⟩) (World.block_lt_of_cell? _ _ hbx)).trans hbx))
 have HF:Hid (l.filter (fun p=>!decide (p.1 = nm) && !ns.contains p.1) = fWithout l ns):=rfl
 go_enter Tryz.func240,Tryz.ntmps240
 go_wp2_with fail
 refine hon.mono ?_
 rintro e w1 ⟨v,rfl,ho,hb⟩
 rw [HF.out] at ho
 go_wp2
 go_ret
 exact ⟨_,rfl,ho.base hb0.size,Below.chain hb0 hb⟩
open Go.RowKit
theorem Ps.one (w:World) (p:Pr):Ps (w.alloc (.cells #[tx p.1,tx p.2] 69)) (some ⟨w.heap.size,0,none⟩) 1 [p]:=by
 refine ⟨rfl,fun _=>⟨_,0,rfl,fun j hj=>?_⟩⟩
 obtain rfl:j = 0:=by omega
 constructor <;> simp [go_sem]
theorem Own.fitN {w:World} {b:Nat} {v:Value} {l:List Pr} (h:Own w b v l):∃ ao cap,v = .slice ao l.length cap ∧ Ps w ao l.length l:=by
 obtain ⟨ao,cap,e,hp,_⟩:=h.slice
 exact ⟨ao,cap,e,hp⟩
end Go.Proofs.YtjlaihekocjggaaGreatDoor.Lb
