/- Texts that the others lean on. -/
import Derived.Shelf.Strings.BuilderK
import Derived.Test.YtjlaihekocjggaaGreatDoorKQRLn2
set_option maxHeartbeats 16000000
namespace Go.Proofs.YtjlaihekocjggaaGreatDoor
open Go.RowKit
def ended (l:List Str):Str:=l.flatMap fun s=>s ++ [10]
def prC (c:Cf):Str:=if isCf c = true then ended (lnC c) else []
theorem zfk (a b:List Str):ended (a ++ b) = ended a ++ ended b:=by simp [ended]
theorem zox {l:List Str} {j:Nat} (h:j < l.length):ended (l.take (j + 1)) = ended (l.take j) ++ (l.getD j [] ++ [10]):=by
 rw [List.take_add_one,List.getElem?_eq_getElem h,zfk]
 simp [ended,List.getD,List.getElem?_eq_getElem h]
theorem ended_le (l:List Str) (j:Nat):(ended (l.take j)).length ≤ (ended l).length:=by
 have e:ended l = ended (l.take j) ++ ended (l.drop j):=by rw [← zfk,List.take_append_drop]
 rw [e]
 simp
theorem ended_len {l:List Str} {M:Nat} (h:∀ x ∈ l,x.length ≤ M):(ended l).length ≤ l.length * (M + 1):=by
 induction l with
 | nil=>simp [ended]
 | cons a t ih=>
  have h1:=ih (fun x hx=>h x (by simp [hx]))
  have h2:=h a (by simp)
  have e:ended (a :: t) = (a ++ [10]) ++ ended t:=rfl
  have e2:(a :: t).length = t.length + 1:=rfl
  rw [e,List.length_append,List.length_append,e2,Nat.add_mul]
  simp
  omega
theorem znz (r:Rl):(Lb.fPrintR r).length ≤ 5000:=by
 unfold Lb.fPrintR
 split
 ·
  next h=>
  obtain ⟨s1,s2,s3,s4⟩:=Lb.rule_short h
  have c1:=Lb.cond_len r.frm s1 s2
  have c2:=Lb.quo_len r.txt
  have c3:=Lb.quo_len r.frm.text
  unfold Lb.lineT
  split
  ·
   simp [Lb.keepT];omega
  split
  ·
   simp [Lb.dropT];omega
  split
  ·
   simp [Lb.replT];omega
  simp [Lb.ldropT];omega
 simp
theorem zew {g:Gr} (h:isGrB g = true):g.name.length ≤ 20 ∧ 1 ≤ g.ev ∧ g.ev ≤ 20 ∧ g.rs.length ≤ 8:=by
 unfold isGrB isHd at h
 simp only [Bool.and_eq_true,decide_eq_true_eq] at h
 obtain ⟨⟨⟨⟨h1,h2⟩,h3⟩,h4⟩,_⟩:=h
 exact ⟨(zcz h1).2,h2,h3,h4⟩
theorem lnC_facts {c:Cf} (h:isCf c = true) (hf:FitC c):(lnC c).length ≤ 33 ∧ ∀ x ∈ lnC c,x.length ≤ 1001100:=by
 unfold isCf at h
 simp only [Bool.and_eq_true,decide_eq_true_eq] at h
 obtain ⟨⟨⟨⟨h1,_⟩,h3⟩,h4⟩,_⟩:=h
 have hg:∀ g ∈ c.gs,isGrB g = true:=fun g hm=>List.all_eq_true.1 h4 g hm
 have hl:∀ gs:List Gr,(∀ g ∈ gs,isGrB g = true) → (gs.flatMap lnG).length ≤ gs.length * 9:=fun gs=>by
  induction gs with
  | nil=>intro _;simp
  | cons a t ih=>
   intro hq
   have:=ih (fun g hm=>hq g (by simp [hm]))
   have h8:=(zew (hq a (by simp))).2.2.2
   rw [List.flatMap_cons,List.length_append,zli,List.length_cons]
   omega
 have hgl:=hl c.gs hg
 refine ⟨?_,fun x hx=>?_⟩
 ·
  unfold lnC
  rw [List.length_append,List.length_map]
  omega
 unfold lnC at hx
 rcases List.mem_append.1 hx with hx | hx
 ·
  obtain ⟨r,_,rfl⟩:=List.mem_map.1 hx
  have:=znz r
  omega
 obtain ⟨g,hm,hx⟩:=List.mem_flatMap.1 hx
 obtain ⟨f1,f2,f3,_⟩:=zew (hg g hm)
 unfold lnG at hx
 rcases List.mem_cons.1 hx with rfl | hx
 ·
  have:=Lib.itoa_length_le g.ev (by omega) (by omega)
  unfold hdL
  simp [gW,eW]
  omega
 obtain ⟨r,hr,rfl⟩:=List.mem_map.1 hx
 have:=lnR_len ((hf.gs g hm).2.2.2.2 r hr).pr
 omega
theorem ws_k (B b:Nat) (bs:List Value) (s:ByteArray) (w:World) (h:Lib.IsBuilderF 103 5 B b bs w) (hlen:bs.length + s.size ≤ 140737488355328) (hBw:B ≤ w.heap.size) :
  Calls Tryz.prog 65 #[.pointer (some ⟨b,0,none⟩),.string s] w fun e w'=>e = .returned (.tuple #[.int .i64 s.size,.nilIface]) ∧ (Lib.BuilderAtF 103 5 B b (.pointer (some ⟨b,0,none⟩)) (bs ++ Lib.strCells s) w' ∧ Below B w w' ∧ Lib.OthersKept 5 (some b) w w'):=Any.Builder_WriteString_k Tryz.ex_lays166 Tryz.ex_Builder_Extra_WB B b bs s w h hlen hBw
theorem bstr_k (B b:Nat) (l:List UInt8) (w:World) (h:Lib.IsBuilderF 103 5 B b (Lib.byteCells l) w) (h0:l ≠ []) :
  Calls Tryz.prog 66 #[.pointer (some ⟨b,0,none⟩)] w fun e w'=>e = .returned (.string ⟨l.toArray⟩) ∧ (Lib.IsBuilderF 103 5 B b (Lib.byteCells l) w' ∧ Below B w w' ∧ Lib.OthersKept 5 (some b) w w'):=Any.Builder_String_k Tryz.ex_lays169 Tryz.ex_Builder_Extra_169 B b l w h h0
def Lx (w:World) (ao:Option Addr) (l:List Str):Prop:=0 < l.length → ∃ g cur,ao = some ⟨g,0,none⟩ ∧ w.heap[g]? = some (.cells cur 9) ∧ ∀ j,j < l.length → cur[j]? = some (tx (l.getD j []))
theorem Lx.of {w:World} {base:Nat} {v:Value} {l:List Str} (h:OwnS w base v l):∃ ao cap,v = .slice ao l.length cap ∧ Lx w ao l:=by
 rcases h.2 with ⟨rfl,h0⟩ | ⟨g,cap,cur,rfl,hb,hg,hn,_,hs,ht⟩
 ·
  exact ⟨none,0,by rw [h0],fun hp=>by omega⟩
 refine ⟨_,cap,rfl,fun _=>⟨g,cur,rfl,hg,fun j hj=>?_⟩⟩
 have e:(cur.toList.take (l.length * 1))[j]? = (l.map tx)[j]?:=by rw [ht]
 rw [List.getElem?_take_of_lt (by omega)] at e
 rw [← Array.getElem?_toList,e]
 simp [List.getD,List.getElem?_eq_getElem hj]
theorem Lx.kept {w w':World} {ao:Option Addr} {l:List Str} {b:Nat} (h:Lx w ao l) (hk:Lib.OthersKept 5 (some b) w w') (hb:∀ cs,w.heap[b]? ≠ some (.cells cs 9)):Lx w' ao l:=fun hp=>by
 obtain ⟨g,cur,e,hg,hc⟩:=h hp
 refine ⟨g,cur,e,hk g _ hg (fun e2=>?_) (fun c fz e2=>?_),hc⟩
 ·
  injection e2 with e2
  subst e2
  exact hb _ hg
 injection e2 with _ e3 _
 cases e3
theorem bf_tag {w:World} {B b:Nat} {bs:List Value} (h:Lib.IsBuilderF 103 5 B b bs w):∀ cs,w.heap[b]? ≠ some (.cells cs 9):=fun cs hq=>by
 have key:∃ ds,w.heap[b]? = some (.cells ds 103):=by
  rcases h with ⟨_,v,hb,_⟩ | ⟨_,v,hb,_⟩ <;> exact ⟨_,hb⟩
 obtain ⟨ds,hd⟩:=key
 exact zbf hd hq (by decide) rfl
theorem zoa {P:Nat → Prop} {w:World} {c:Cf} {cs:Array Value} (h:CfP P w c cs) (hf:FitC c) (he:Ev w) (het:Et w):Calls Tryz.prog 30 #[.agg cs] w fun e w'=>e = .returned (tx (prC c)) ∧ Below w.heap.size w w':=by
 have row:=h.row
 have q:=zac w (.cells cs 39)
 have B:=bal (Below.refl w.heap.size w) (.cells cs 39)
 have hic:=fun W (hW:Below w.heap.size w W)=>isC_any (h.later hW) hf (het.later hW)
 have HP:Hid (prC c = if isCf c = true then ended (lnC c) else []):=rfl
 cases hq:isCf c with
 | false=>
  rw [hq] at hic
  have HN:Hid (prC c = []):=by show _ = _;rw [HP.out,hq];rfl
  go_enter Tryz.func30,Tryz.ntmps30
  go_wp2_with (refine zaj rfl 39 _ rfl w.heap.size cs 39 rfl q _ Tryz.underlying39 rfl 2 rz39 row.1 ?_)
  generalize w.alloc (.cells cs 39) = w0 at *
  refine (hic _ B).mono ?_
  rintro e w1 ⟨rfl,b1⟩
  go_wp2_with fail
  go_ret
  exact ⟨by rw [HN.out];rfl,Below.chain B b1⟩
 | true=>
  rw [hq] at hic
  have HN:Hid (prC c = ended (lnC c)):=by show _ = _;rw [HP.out,hq];rfl
  rw [HN.out]
  obtain ⟨hl33,hlx⟩:=lnC_facts hq hf
  have hel:=ended_len hlx
  have hnm:∀ g ∈ c.gs,g.name.length ≤ 1000000:=fun g hm=>by
   unfold isCf at hq
   simp only [Bool.and_eq_true,decide_eq_true_eq] at hq
   have:=(zew (List.all_eq_true.1 hq.1.2 g hm)).1
   omega
  have hli:=fun W (hW:Below w.heap.size w W)=>lines_any (h.later hW) hf hnm (he.later hW)
  clear hlx HN HP hq hnm
  generalize lnC c = L at *
  go_enter Tryz.func30,Tryz.ntmps30
  go_wp2_with (refine zaj rfl 39 _ rfl w.heap.size cs 39 rfl q _ Tryz.underlying39 rfl 2 rz39 row.1 ?_)
  generalize w.alloc (.cells cs 39) = w0 at *
  refine (hic _ B).mono ?_
  rintro e w1 ⟨rfl,b1⟩
  have B1:=Below.chain B b1
  have q1:=zab b1 q
  have hB0:=Lib.fresh_isBuilder 103 5 w1
  have qb:=zac w1 (.cells #[.pointer none,.slice none 0 0] 103)
  have bb:=bal (Below.refl w1.heap.size w1) (.cells #[.pointer none,.slice none 0 0] 103)
  have q2:=zab bb q1
  have B2:=Below.chain B1 bb
  clear hB0 hic
  go_wp2_with (refine zaj rfl 39 _ rfl w.heap.size cs 39 rfl q2 _ Tryz.underlying39 rfl 2 rz39 row.1 ?_)
  generalize w1.alloc (.cells #[.pointer none,.slice none 0 0] 103) = w2 at *
  refine (hli _ B2).mono ?_
  rintro e w3 ⟨v,rfl,own,b3⟩
  obtain ⟨ao,cap,rfl,lx⟩:=Lx.of own
  have qb3:=zab b3 qb
  have hb3:Lib.IsBuilder 103 5 w1.heap.size w1.heap.size [] w3:=Or.inl ⟨Nat.le_refl _,.slice none 0 0,qb3,World.ownsRow_nil _ _ _ _,by simp [Value.ownBlock]⟩
  have B3:=Below.chain B2 b3
  have h13:w1.heap.size ≤ w3.heap.size:=Nat.le_of_lt (zah qb3)
  have hw1:w.heap.size ≤ w1.heap.size:=B1.size
  obtain ⟨n,HNL⟩:∃ n,Hid (L.length = n):=⟨_,(rfl:L.length = L.length)⟩
  rw [HNL.out] at hel hl33 ⊢
  generalize w1.heap.size = bk at *
  clear own hli q2 qb qb3 b3 bb
  go_wp2_with fail
  go_loopw [12] (fun i wr=>∃ j:Nat,j ≤ n ∧ i = .int .i64 j ∧ Lib.IsBuilderF 103 5 bk bk (Lib.byteCells (ended (L.take j))) wr ∧ (j = 0 → Lib.IsBuilder 103 5 bk bk [] wr) ∧ Lx wr ao L ∧ Below w.heap.size w wr ∧ bk ≤ wr.heap.size) (fun i _=>n - (intOf i).toNat)
  case atStart=>exact ⟨0,by omega,rfl,Lib.IsBuilderF.of hb3,fun _=>hb3,lx,B3,h13⟩
  case round=>
   obtain ⟨j,hj,rfl,hB,hB0,lxr,Br,hbk⟩:=hrel
   by_cases hlt:j < n
   ·
    have hlt':(j:Int) < n:=by omega
    obtain ⟨g,cur,rfl,hg,hc⟩:=lxr (by have:=HNL.out;omega)
    have k0:wr.cell? ⟨g,j,none⟩ = some (tx (L.getD j [])):=(zaa hg j).trans (hc j (by have:=HNL.out;omega))
    have hE:=zox (l:=L) (j:=j) (by have:=HNL.out;omega)
    have hEl:=ended_le L (j + 1)
    have HE:Hid _:=hE
    rw [hE] at hEl
    have htg:=bf_tag hB
    clear hE hc hB0 hg
    generalize L.getD j [] = a at *
    generalize ended (L.take j) = E at *
    simp only [List.length_append,List.length_singleton] at hEl
    have hws:=ws_k bk bk (Lib.byteCells E) ⟨a.toArray⟩ wr hB (by rw [Lib.byteCells_length,zau];omega) hbk
    go_wp2_with fail
    refine hws.mono ?_
    rintro e w4 ⟨rfl,hB1,hb1,ok1⟩
    rw [Lib.strCells_toArray,← Lib.byteCells_append] at hB1
    have lx4:=lxr.kept ok1 htg
    have htg4:=bf_tag (Or.inr hB1)
    have B4:=Br.trans (hb1.mono hw1)
    have z4:=Nat.le_trans hbk hb1.size
    have hws2:=ws_k bk bk (Lib.byteCells (E ++ a)) ⟨#[10]⟩ w4 (Or.inr hB1) (by rw [Lib.byteCells_length,List.length_append];show _ + 1 ≤ _;omega) z4
    clear hws
    go_wp2_with fail
    refine hws2.mono ?_
    rintro e w5 ⟨rfl,hB2,hb2,ok2⟩
    have e2:Lib.byteCells (E ++ a) ++ Lib.strCells ⟨#[10]⟩ = Lib.byteCells (E ++ (a ++ [10])):=by
     have:Lib.strCells ⟨#[10]⟩ = Lib.byteCells [10]:=Lib.strCells_toArray [10]
     rw [this,← Lib.byteCells_append,List.append_assoc]
    rw [e2] at hB2
    have lx5:=lx4.kept ok2 htg4
    have B5:=B4.trans (hb2.mono hw1)
    clear hws2
    go_wp2_with fail
    go_roundw
    case rel=>exact ⟨j + 1,by omega,by go_num,by rw [HE.out];exact Or.inr hB2,fun h=>by omega,lx5,B5,Nat.le_trans z4 hb2.size⟩
    case measure=>simp [intOf];omega
   have hlt':¬ (j:Int) < n:=by omega
   have HT:Hid (ended (L.take j) = ended L):=by show _ = _;rw [List.take_of_length_le (by have:=HNL.out;omega)]
   by_cases hz:n = 0
   ·
    have hj0:j = 0:=by omega
    have hst:=Tryz.ex_Builder_String_any bk bk [] wr (hB0 hj0) hbk
    have HZ:Hid (ended L = []):=by
     have:L = []:=List.length_eq_zero_iff.1 (by rw [HNL.out];exact hz)
     show _ = _
     rw [this]
     rfl
    go_wp2_with fail
    refine hst.mono ?_
    rintro e w4 ⟨rfl,hb4⟩
    go_wp2_with fail
    go_ret
    exact ⟨by rw [HZ.out];rfl,Br.trans (hb4.mono hw1)⟩
   have hne:ended L ≠ []:=fun e=>by
    cases L with
    | nil=>exact hz HNL.out.symm
    | cons a t=>simp [ended] at e
   have hst:=bstr_k bk bk (ended L) wr (by rw [← HT.out];exact hB) hne
   clear hB HT
   obtain ⟨E,HX⟩:∃ E,Hid (ended L = E):=⟨_,(rfl:ended L = ended L)⟩
   rw [HX.out] at hst
   go_wp2_with fail
   refine hst.mono ?_
   rintro e w4 ⟨rfl,_,hb4,_⟩
   go_wp2_with fail
   go_ret
   exact ⟨by rw [HX.out];rfl,Br.trans (hb4.mono hw1)⟩
end Go.Proofs.YtjlaihekocjggaaGreatDoor
