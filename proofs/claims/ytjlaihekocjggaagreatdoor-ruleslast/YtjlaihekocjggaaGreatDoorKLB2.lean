/- Texts that the others lean on. -/
import Derived.Test.YtjlaihekocjggaaGreatDoorKLB1
set_option maxHeartbeats 16000000
namespace Go.Proofs.YtjlaihekocjggaaGreatDoor.Lb
open Go.RowKit
theorem zlr (v:Str) (w:World) (hv:v.length ≤ 1000) (hm:Mx w):Calls Tryz.prog 304 #[tx v] w fun e w'=>e = .returned (tx (esc v)) ∧ Below w.heap.size w w':=by
 have h1:=zcy v 92 [92,92] w (by omega) rfl (by simp) hm
 have hl:=zdc v
 have h2:=fun W (hW:Below w.heap.size w W)=>zcy (v.flatMap fun x=>if x = 92 then [92,92] else [x]) 34 [92,34] W (by omega) rfl (by simp) (hm.later hW)
 rw [esc_two] at h2
 clear hl
 generalize (v.flatMap fun x=>if x = 92 then [92,92] else [x]) = u at *
 go_enter Tryz.func304,Tryz.ntmps304
 go_wp2_with fail
 refine h1.mono ?_
 rintro e w1 ⟨rfl,hb1⟩
 go_wp2_with fail
 refine (h2 _ hb1).mono ?_
 rintro e w2 ⟨rfl,hb2⟩
 go_wp2
 go_ret
 exact ⟨rfl,Below.chain hb1 hb2⟩
theorem get_len {l:List Pr} (hf:Fit l) (n:Str):(fGet l n).length ≤ 9223372036854775807:=by
 by_cases h:fGet l n = []
 ·
  rw [h];simp
 exact (hf _ (get_mem h)).2
theorem split_any (xa:Option Addr) (n c:Nat) (l:List Pr) (w:World) (hn:n ≤ 1000000) (hf:Fit l) (hx:Ps w xa n l) :
  Calls Tryz.prog 303 #[.slice xa n c] w fun e w'=>∃ ao cap,e = .returned (.tuple #[tx (metric l),.slice ao (others l).length cap]) ∧ Ps w' ao (others l).length (others l) ∧ Below w.heap.size w w':=by
 have hg:=get_any xa n c l nm w (by omega) hx
 have hnm:=fun W=>zbx (fGet l nm) W (get_len hf nm)
 unfold metric others
 generalize fGet l nm = g at *
 cases hN:fName g with
 | true=>
  rw [hN] at hnm
  rw [if_pos rfl,if_pos rfl]
  go_enter Tryz.func303,Tryz.ntmps303
  go_wp2_with fail
  refine hg.mono ?_
  rintro e w1 ⟨rfl,hb1⟩
  go_wp2_with (go_at_call 150;refine (hnm _).mono ?_;rintro e w' ⟨rfl,rfl⟩)
  refine (without_any xa n c l none 0 0 [] w1 hn (by omega) (hx.later hb1) (Ss.nil _ _)).mono ?_
  rintro e w2 ⟨v,rfl,ho,hb2⟩
  obtain ⟨ao,cap,rfl,hps,_⟩:=ho.slice
  go_wp2
  go_ret2
  exact ⟨ao,cap,rfl,hps,Below.chain hb1 hb2⟩
 | false=>
  rw [hN] at hnm
  rw [if_neg (by simp),if_neg (by simp)]
  have HL:Hid (l.length = n):=hx.1
  go_enter Tryz.func303,Tryz.ntmps303
  go_wp2_with fail
  refine hg.mono ?_
  rintro e w1 ⟨rfl,hb1⟩
  go_wp2_with (go_at_call 150;refine (hnm _).mono ?_;rintro e w' ⟨rfl,rfl⟩)
  go_ret2
  exact ⟨xa,c,by rw [HL.out];rfl,by rw [HL.out];exact hx.later hb1,hb1⟩
theorem zie (v:Value) (base:Nat) (l:List Str) (w:World) (ho:OwnS w base v l) (hl:(Lib.join l [44]).length ≤ 1000000) (hN:l.length ≤ 1000000) :
  Calls Tryz.prog 147 #[v,.string ⟨#[44]⟩] w fun e w'=>e = .returned (tx (Lib.join l [44])) ∧ Below w.heap.size w w':=by
 obtain ⟨ao,cap,rfl,hs,hc,hb⟩:=ho.slice
 by_cases h0:l.length = 0
 ·
  obtain rfl:l = []:=List.length_eq_zero_iff.1 h0
  refine (Tryz.strings_Join_none ao cap ⟨#[44]⟩ w).mono ?_
  rintro e w' ⟨rfl,rfl⟩
  exact ⟨rfl,Below.refl _ _⟩
 have hpos:0 < l.length:=Nat.pos_of_ne_zero h0
 obtain ⟨g,rfl,hlt⟩:=hb hpos
 obtain ⟨_,h4⟩:=hs
 obtain ⟨b,off,e,hcell⟩:=h4 hpos
 cases e
 have em:(l.map fun s=>(⟨s.toArray⟩:ByteArray)).map (·.data.toList) = l:=by
  rw [List.map_map]
  conv=>rhs;rw [← List.map_id l]
  apply List.map_congr_left
  intro s _
  simp
 have h:=Tryz.strings_Join g 0 cap (l.map fun s=>(⟨s.toArray⟩:ByteArray)) ⟨#[44]⟩ w (fun j x hx=>by
  rw [List.getElem?_map] at hx
  cases hj:l[j]? with
  | none=>rw [hj] at hx;cases hx
  | some s=>
   rw [hj] at hx
   cases hx
   have hlt:j < l.length:=by
    by_cases h:j < l.length
    ·
     exact h
    rw [List.getElem?_eq_none (by omega)] at hj;cases hj
   rw [hcell j hlt,List.getD,hj]
   rfl) hlt (by simp;omega) (by simpa using hc) (by rw [em];show (Lib.join l [44]).length ≤ _;omega)
 rw [em] at h
 simp only [List.length_map] at h
 exact h.mono fun e w' ⟨he,hb⟩=>⟨he,hb⟩
theorem Box.both {w:World} {b:Nat} {p:Pr} (h:Box w b p):w.cell? ⟨b,0,none⟩ = some (tx p.1) ∧ w.cell? ⟨b,1,none⟩ = some (tx p.2):=⟨h.c0,h.c1⟩
theorem Box.grown {w w':World} {b:Nat} {p:Pr} {row:Option Nat} (h:Box w b p) (hg:w.grownBy w' row) (hne:some b ≠ row):Box w' b p:=by
 have e:=hg.block b h.lt hne
 exact ⟨(World.cell?_of_block (a:=⟨b,0,none⟩) e).trans h.c0,(World.cell?_of_block (a:=⟨b,1,none⟩) e).trans h.c1,(World.frozen?_of_block (a:=⟨b,0,none⟩) e).trans h.f0,(World.frozen?_of_block (a:=⟨b,1,none⟩) e).trans h.f1⟩
theorem inner_le (l:List Pr) (h:∀ p ∈ l,p.1.length ≤ 20 ∧ p.2.length ≤ 30):(inner l).length ≤ l.length * 84:=by
 induction l with
 | nil=>simp [inner,Lib.join_nil]
 | cons p l ih=>
  have hp:=h p List.mem_cons_self
  have he:=zez p.2
  have ih':=ih fun q hq=>h q (List.mem_cons_of_mem _ hq)
  have ht:(pairT p).length ≤ 83:=by simp [pairT];omega
  cases l with
  | nil=>rw [inner_one];simp;omega
  | cons q l=>rw [zor,List.length_append,List.length_append];simp at *;omega
theorem map_snoc {l:List Pr} {j:Nat} (hj:j < l.length):(l.take (j + 1)).map pairT = (l.take j).map pairT ++ [(l.getD j ([],[])).1 ++ [61,34] ++ esc (l.getD j ([],[])).2 ++ [34]]:=by
 rw [List.take_succ_eq_append_getElem hj,List.map_append,zca hj]
 rfl
theorem others_is {l:List Pr} (h:fIs l = true):(others l).length ≤ 8 ∧ ∀ p ∈ others l,p.1.length ≤ 20 ∧ p.2.length ≤ 30:=by
 have h':=(is_iff l).1 h
 have hs:∀ p ∈ others l,p ∈ l:=by
  unfold others
  split
  ·
   exact fun p hp=>(List.mem_filter.1 hp).1
  exact fun p hp=>hp
 have hl:(others l).length ≤ l.length:=by
  unfold others
  split
  ·
   exact List.length_filter_le _ _
  exact Nat.le_refl _
 refine ⟨by omega,fun p hp=>?_⟩
 have:=h'.2.1 p (hs p hp)
 exact ⟨(zcz this.1).2,(val_len this.2).2⟩
theorem metric_len (l:List Pr):(metric l).length ≤ 20:=by
 unfold metric
 split
 ·
  rename_i h;exact (zcz h).2
 simp
set_option maxRecDepth 20000 in
theorem print_any (xa:Option Addr) (n c:Nat) (l:List Pr) (w:World) (hn:n ≤ 1000000) (hf:Fit l) (hm:Mx w) (hx:Ps w xa n l) :
  Calls Tryz.prog 253 #[.slice xa n c] w fun e w'=>e = .returned (tx (fPrint l)) ∧ Below w.heap.size w w':=by
 have his:=is_any xa n c l w (by omega) hf hx
 cases hI:fIs l with
 | false=>
  rw [hI] at his
  have HR:Hid (fPrint l = []):=by show _ = _;unfold fPrint;rw [hI];rfl
  clear hI
  go_enter Tryz.func253,Tryz.ntmps253
  go_wp2_with fail
  refine his.mono ?_
  rintro e w1 ⟨rfl,hb1⟩
  go_wp2
  go_ret
  exact ⟨by rw [HR.out];rfl,hb1⟩
 | true=>
  rw [hI] at his
  obtain ⟨i0,hi,hz0,hz1,hz2⟩:=zbz
  have hot:=others_is hI
  have hml:=metric_len l
  have HR:Hid (fPrint l = if metric l ≠ [] ∧ others l = [] then metric l else metric l ++ [123] ++ inner (others l) ++ [125]):=by show _ = _;unfold fPrint;rw [if_pos hI]
  clear hI
  have hsp:=fun W (hW:Below w.heap.size w W)=>split_any xa n c l W hn hf (hx.later hW)
  generalize fPrint l = R at *
  generalize metric l = ms at *
  generalize others l = os at *
  obtain ⟨ho8,hov⟩:=hot
  by_cases hme:ms ≠ [] ∧ os = []
  ·
   obtain ⟨h1,rfl⟩:=hme
   rw [if_pos ⟨h1,rfl⟩] at HR
   have h1':(ms == []) = false:=by simpa using h1
   clear h1
   go_enter Tryz.func253,Tryz.ntmps253
   go_wp2_with fail
   refine his.mono ?_
   rintro e w1 ⟨rfl,hb1⟩
   go_wp2_with fail
   refine (hsp w1 hb1).mono ?_
   rintro e w2 ⟨ao,cap,rfl,hps,hb2⟩
   go_wp2
   go_ret
   exact ⟨by rw [HR.out];rfl,Below.chain hb1 hb2⟩
  rw [if_neg hme] at HR
  have hcase:(ms == []) = true ∨ ((ms == []) = false ∧ ((os.length:Int) == 0) = false):=by
   by_cases h:ms = []
   ·
    exact Or.inl (by simpa using h)
   refine Or.inr ⟨by simpa using h,?_⟩
   rw [beq_eq_false_iff_ne]
   intro e
   exact hme ⟨h,List.length_eq_zero_iff.1 (by omega)⟩
  clear hme
  have hil:=inner_le os hov
  rcases hcase with h1 | ⟨h1,h2⟩
  all_goals
   go_enter Tryz.func253,Tryz.ntmps253
   go_wp2_with fail
   refine his.mono ?_
   rintro e w1 ⟨rfl,hb1⟩
   go_wp2_with fail
   refine (hsp w1 hb1).mono ?_
   rintro e w2 ⟨ao,cap,rfl,hps,hb2⟩
   have hb12:Below w.heap.size w w2:=Below.chain hb1 hb2
   obtain ⟨_,hcell⟩:=hps
   go_wp2_with fail
   go_loopw [27,5] (fun i u wr=>∃ (j:Nat) (v:Value),j ≤ os.length ∧ i = .int .i64 j ∧ v = u ∧ OwnS wr w2.heap.size v ((os.take j).map pairT) ∧ Below w2.heap.size w2 wr) (fun i _ _=>os.length - (intOf i).toNat)
   case atStart=>exact ⟨0,_,by omega,rfl,rfl,World.ownsRow_made w2 #[] 0 (Nat.le_refl _) (Nat.zero_le _) (by simp),bal (Below.refl _ _) _⟩
   case round=>
    obtain ⟨j,v,hj,rfl,rfl,ho,hb⟩:=hrel
    by_cases hlt:j < os.length
    ·
     obtain ⟨b1,o1,rfl,h1⟩:=hcell (by omega)
     obtain ⟨c10,c11⟩:=h1 j hlt
     have k0:=(hb.cell (p:=⟨b1,o1 + j * 2,none⟩) (World.block_lt_of_cell? _ _ c10)).trans c10
     have k1:=(hb.cell (p:=⟨b1,o1 + j * 2 + 1,none⟩) (World.block_lt_of_cell? _ _ c11)).trans c11
     have HSN:Hid _:=map_snoc hlt
     have hpl:=hov (os.getD j ([],[])) (by rw [zca hlt];exact List.getElem_mem hlt)
     have hle:((os.take j).map pairT).length ≤ 8:=by simp;omega
     clear h1 hcell c10 c11
     generalize os.getD j ([],[]) = p at *
     obtain ⟨p1,p2⟩:=p
     dsimp only at *
     generalize (os.take j).map pairT = ts at *
     obtain ⟨hp1,hp2⟩:=hpl
     have hel:=zez p2
     obtain ⟨t1,ht1⟩:∃ t,t = p1 ++ [61,34]:=⟨_,rfl⟩
     obtain ⟨t2,ht2⟩:∃ t,t = t1 ++ esc p2:=⟨_,rfl⟩
     obtain ⟨t3,ht3⟩:∃ t,t = t2 ++ [34]:=⟨_,rfl⟩
     have hl1:t1.length ≤ 22:=by rw [ht1];simp;omega
     have hl2:t2.length ≤ 82:=by rw [ht2];simp;omega
     have H1:Hid _:=ht1
     have H2:Hid _:=ht2
     have H3:Hid _:=ht3
     rw [← ht1,← ht2,← ht3] at HSN
     clear ht1 ht2 ht3
     have hvb:∀ _:Unit,some wr.heap.size ≠ v.ownBlock:=fun _ e=>by have:=(World.ownsRow.lt ho _ e.symm).2;omega
     have hbx:=Box.new wr (p1,p2)
     have hbq:=bal hb (.cells #[tx p1,tx p2] 69)
     have hoq:=ho.later (bal (Below.refl _ _) (.cells #[tx p1,tx p2] 69))
     have hmq:Mx (wr.alloc (.cells #[tx p1,tx p2] 69)):=(hm.later hb12).later hbq
     have hes:=fun W=>zlr p2 W (by omega)
     go_wp2_with fail
     generalize wr.alloc (.cells #[tx p1,tx p2] 69) = wq at *
     have B2:Below wq.heap.size wq wq.drew:=(Below.refl _ _).drew
     have S2:=(hbx.later B2).both
     refine wp_region_noPanic ?_
     refine wp_region_held_drew (S:=fun W=>W.cell? ⟨wr.heap.size,0,none⟩ = some (tx p1) ∧ W.cell? ⟨wr.heap.size,1,none⟩ = some (tx p2)) (by kernel_rfl) ?_ (fun _=>?_)
     ·
      exact S2
     generalize wq.drew = wd at *
     refine tk 0 31 (v) rfl (fun W hSw=>by go_simp) S2 ?_
     simp only [Act.put,pB,pC,pD]
     refine tk 1 32 (.pointer (some ⟨wr.heap.size,0,none⟩)) rfl (fun W hSw=>by go_simp) S2 ?_
     simp only [Act.put,pB,pC,pD]
     refine tk 2 33 (tx p1) rfl (fun W hSw=>by obtain ⟨s0,s1⟩:=hSw;go_simp) S2 ?_
     simp only [Act.put,pB,pC,pD]
     refine tk 3 34 (tx t1) rfl (fun W hSw=>zam rfl p1 [61,34] rfl rfl (by simp;omega) t1 H1.out W) S2 ?_
     simp only [Act.put,pB,pC,pD]
     refine tk 4 35 (.pointer (some ⟨wr.heap.size,1,none⟩)) rfl (fun W hSw=>by go_simp) S2 ?_
     simp only [Act.put,pB,pC,pD]
     refine tk 5 36 (tx p2) rfl (fun W hSw=>by obtain ⟨s0,s1⟩:=hSw;go_simp) S2 ?_
     simp only [Act.put,pB,pC,pD]
     refine wpAnyH_ready (rs:=[6]) (by kernel_rfl) (by simp) ?_
     refine aR rfl fun K hK=>?_
     go_simp
     refine (hes _ (hmq.later B2)).mono ?_
     rintro e w3 ⟨rfl,hb3⟩
     have B3:=Below.chain B2 hb3
     have S3:=(hbx.later B3).both
     refine hK.out _ _ ?_ (fun _=>?_)
     ·
      exact S3
     clear hK K
     refine tk 7 38 (tx t2) rfl (fun W hSw=>zam rfl t1 (esc p2) rfl rfl (by omega) t2 H2.out W) S3 ?_
     simp only [Act.put,pB,pC,pD]
     refine tk 8 39 (tx t3) rfl (fun W hSw=>zam rfl t2 [34] rfl rfl (by simp;omega) t3 H3.out W) S3 ?_
     simp only [Act.put,pB,pC,pD]
     refine wpAnyH_ready (rs:=[9]) (by kernel_rfl) (by simp) ?_
     refine aR rfl fun K hK=>?_
     go_simp
     have B4:=bal B3 (.cells #[tx t3] 9)
     have S4:=(hbx.later B4).both
     have hnw:(w3.alloc (.cells #[tx t3] 9)).cell? ⟨w3.heap.size,0,none⟩ = some (tx t3):=World.cell?_alloc_new w3 _ _ 0
     refine hK.out _ _ ?_ (fun _=>?_)
     ·
      exact S4
     clear hK K
     refine wpAnyH_ready (rs:=[10]) (by kernel_rfl) (by simp) ?_
     refine aR rfl fun K hK=>?_
     refine zbq _ _ (some 41) 25 rfl rfl (by rfl) w2.heap.size 9 i0 (tx []) 1 16 Tryz.underlying25 hi hz0 hz1 hz2 rfl (by decide) v _ _ rfl (hoq.later B4) ⟨w3.heap.size,0,none⟩ 1 1 [tx t3] rfl rfl (zbk hnw) (fun u hu=>by cases hu with | head=>rfl | tail _ h=>cases h) (by unfold maxLen;omega) (by omega) (Nat.le_trans hbq.size B4.size) ?_
     intro v5 w5 ho5 hg5
     have B5:Below w2.heap.size w2 w5:=(hbq.trans (B4.mono hbq.size)).grown hg5 (Nat.le_trans hbq.size B4.size) (fun k hk=>(World.ownsRow.lt (hoq.later B4) k hk).1)
     have S5:=((hbx.later B4).grown hg5 (hvb ())).both
     refine hK.out _ _ ?_ (fun _=>?_)
     ·
      exact S5
     clear hK K
     refine tk 11 5 (v5) rfl (fun W hSw=>by go_simp) S5 ?_
     simp only [Act.put,pB,pC,pD]
     refine wpAnyH_done (by kernel_rfl) ?_ _
     refine NoPanic.normal ?_
     go_wp2
     go_roundw
     case rel=>
      refine ⟨j + 1,_,by omega,by go_num,rfl,?_,B5⟩
      rw [HSN.out]
      exact OwnS.snoc ho5
     case measure=>simp [intOf];omega
    have HT:Hid ((os.take j).map pairT = os.map pairT):=by show _ = _;rw [List.take_of_length_le (by omega)]
    rw [HT.out] at ho
    have hjo:=zie v w2.heap.size (os.map pairT) wr ho (by show (inner os).length ≤ _;omega) (by simp;omega)
    have HI:Hid (Lib.join (os.map pairT) [44] = inner os):=rfl
    rw [HI.out] at hjo
    have hap:=zbc
    have h8:os.length * 84 ≤ 672:=by omega
    have hil':(inner os).length ≤ 672:=by omega
    clear hil HI HT h8
    generalize inner os = t at *
    go_wp2_with fail
    refine hjo.mono ?_
    rintro e w4 ⟨rfl,hb4⟩
    go_wp2
    go_ret
    exact ⟨by rw [HR.out];simp,(hb12.trans (hb.mono hb12.size)).trans (hb4.mono (hb12.trans (hb.mono hb12.size)).size)⟩
theorem rd_quote {s:Str} {j:Nat} (hj:j < s.length) (h:s[j] = 34):rdVal (s.drop j) = ([],s.drop (j + 1)):=by
 rw [List.drop_eq_getElem_cons hj,h,rdVal.eq_def]
 simp
theorem rd_plain {s:Str} {j:Nat} (hj:j < s.length) (h:s[j] ≠ 34) (h2:s[j] ≠ 92):rdVal (s.drop j) = (s[j] :: (rdVal (s.drop (j + 1))).1,(rdVal (s.drop (j + 1))).2):=by
 rw [List.drop_eq_getElem_cons hj,rdVal.eq_def]
 simp [h,h2]
theorem rd_back {s:Str} {j:Nat} (hj:j < s.length) (h:s[j] = 92) (h1:j + 1 < s.length):rdVal (s.drop j) = (s[j + 1] :: (rdVal (s.drop (j + 2))).1,(rdVal (s.drop (j + 2))).2):=by
 rw [List.drop_eq_getElem_cons hj,h,List.drop_eq_getElem_cons h1,rdVal.eq_def]
 simp
theorem rd_last {s:Str} {j:Nat} (hj:j < s.length) (h:s[j] = 92) (h1:¬ j + 1 < s.length):rdVal (s.drop j) = (s[j] :: (rdVal (s.drop (j + 1))).1,(rdVal (s.drop (j + 1))).2):=by
 have e:s.drop (j + 1) = []:=List.drop_eq_nil_of_le (by omega)
 rw [List.drop_eq_getElem_cons hj,h,e,rdVal.eq_def]
 simp [rdVal]
theorem zeh (s:Str) (w:World) (hs:s.length ≤ 1000000):Calls Tryz.prog 329 #[tx s] w fun e w'=>e = .returned (.tuple #[tx (rdVal s).1,tx (rdVal s).2]) ∧ Below w.heap.size w w':=by
 obtain ⟨i0,hi,hz0,hz1,hz2⟩:=zgf
 have hex:=zey s
 go_enter Tryz.func329,Tryz.ntmps329
 go_wp2
 go_loopw [5,4] (fun i u wr=>∃ (j:Nat) (v:Value) (l:Str),j ≤ s.length ∧ l.length ≤ j ∧ i = .int .i64 j ∧ v = u ∧ OwnB wr w.heap.size v l ∧ Hid (rdVal s = (l ++ (rdVal (s.drop j)).1,(rdVal (s.drop j)).2)) ∧ Below w.heap.size w wr) (fun i _ _=>s.length - (intOf i).toNat)
 case atStart=>exact ⟨0,_,[],by omega,by simp,rfl,rfl,World.ownsRow_made w #[] 0 (Nat.le_refl _) (Nat.zero_le _) (by simp),by show _ = _;simp,bal (Below.refl _ _) _⟩
 case round=>
  obtain ⟨j,v,l,hj,hlj,rfl,rfl,ho,HR,hb⟩:=hrel
  have hcv:=ho.string
  by_cases hlt:j < s.length
  ·
   have hbk:=zed hlt
   by_cases hq:(((⟨s.toArray⟩:ByteArray)[j]'hbk).toNat:Int) = 34
   ·
    have HQ:Hid (rdVal s = (l,s.drop (j + 1))):=by
     show _ = _
     rw [HR.out,rd_quote hlt (zcb (k:=34) (by decide) hq)]
     simp
    clear HR
    have hq':((((⟨s.toArray⟩:ByteArray)[j]'hbk).toNat:Int) == 34) = true:=beq_iff_eq.2 hq
    clear hq
    have hcd:∀ k,(convert 55 9 v).run Tryz.prog (wr.drewN k) = .ok (tx l) (wr.drewN k):=fun k=>hcv _ (below_drewN (Below.refl _ _) k)
    clear hcv
    go_wp2
    go_quiet (fail)
    go_wp2
    go_ret2
    exact ⟨by rw [HQ.out];rfl,below_drewN hb _⟩
   have hq1:=zcg (k:=34) (by decide) hq
   have hq':((((⟨s.toArray⟩:ByteArray)[j]'hbk).toNat:Int) == 34) = false:=beq_eq_false_iff_ne.2 hq
   by_cases hk:(((⟨s.toArray⟩:ByteArray)[j]'hbk).toNat:Int) = 92
   ·
    have hk':((((⟨s.toArray⟩:ByteArray)[j]'hbk).toNat:Int) == 92) = true:=beq_iff_eq.2 hk
    by_cases h1:j + 1 < s.length
    ·
     have hbk1:=zed h1
     have h1':(j:Int) + 1 < s.length:=by omega
     have hix:∀ W,(Instr.index 9 (tx s) (.int .i64 ((j:Int) + 1))).run Tryz.prog W = .ok (by8 ((⟨s.toArray⟩:ByteArray)[j + 1]'hbk1)) W:=fun W=>znf s (j + 1) hbk1 W
     have HN:Hid (rdVal s = ((l ++ [(⟨s.toArray⟩:ByteArray)[j + 1]'hbk1]) ++ (rdVal (s.drop (j + 2))).1,(rdVal (s.drop (j + 2))).2)):=by
      show _ = _
      rw [HR.out,rd_back hlt (zcb (k:=92) (by decide) hk) h1]
      simp
      rfl
     clear HR hq hq1 hk hcv
     have ho1:=ho.later (bal (Below.refl _ _) (.cells #[by8 ((⟨s.toArray⟩:ByteArray)[j + 1]'hbk1)] 5))
     have hbo:=bal hb (.cells #[by8 ((⟨s.toArray⟩:ByteArray)[j + 1]'hbk1)] 5)
     go_wp2_with (at_builtin;go_must (refine wpList_append_own _ rfl _ _ 55 rfl w.heap.size 5 i0 (.int .u8 0) 1 1 Tryz.underlying55 hi hz0 hz1 hz2 rfl (by decide) _ _ _ rfl ho1 ⟨wr.heap.size,0,none⟩ 1 1 [by8 ((⟨s.toArray⟩:ByteArray)[j + 1]'hbk1)] rfl rfl (zbk (World.cell?_alloc_new wr _ _ 0)) (fun u hu=>by cases hu with | head=>rfl | tail _ h=>cases h) ?h63 ?hby ?hbs ?_))
     case h63=>unfold maxLen;omega
     case hby=>omega
     case hbs=>have:=hb.size;simp;omega
     intro v' w2 ho4 hg4 _
     go_wp2
     go_roundw
     case rel=>exact ⟨j + 2,_,l ++ [(⟨s.toArray⟩:ByteArray)[j + 1]'hbk1],by omega,by simp;omega,by go_num,rfl,OwnB.snoc ho4,HN,hbo.grown hg4 hbo.size (fun k hk=>(World.ownsRow.lt ho1 k hk).1)⟩
     case measure=>simp [intOf];omega
    have h1':¬ (j:Int) + 1 < s.length:=by omega
    have HN:Hid (rdVal s = ((l ++ [(⟨s.toArray⟩:ByteArray)[j]'hbk]) ++ (rdVal (s.drop (j + 1))).1,(rdVal (s.drop (j + 1))).2)):=by
     show _ = _
     rw [HR.out,rd_last hlt (zcb (k:=92) (by decide) hk) h1]
     simp
     rfl
    clear HR hq hq1 hk hcv
    have ho1:=ho.later (bal (Below.refl _ _) (.cells #[by8 ((⟨s.toArray⟩:ByteArray)[j]'hbk)] 5))
    have hbo:=bal hb (.cells #[by8 ((⟨s.toArray⟩:ByteArray)[j]'hbk)] 5)
    go_wp2_with (at_builtin;go_must (refine wpList_append_own _ rfl _ _ 55 rfl w.heap.size 5 i0 (.int .u8 0) 1 1 Tryz.underlying55 hi hz0 hz1 hz2 rfl (by decide) _ _ _ rfl ho1 ⟨wr.heap.size,0,none⟩ 1 1 [by8 ((⟨s.toArray⟩:ByteArray)[j]'hbk)] rfl rfl (zbk (World.cell?_alloc_new wr _ _ 0)) (fun u hu=>by cases hu with | head=>rfl | tail _ h=>cases h) ?h63 ?hby ?hbs ?_))
    case h63=>unfold maxLen;omega
    case hby=>omega
    case hbs=>have:=hb.size;simp;omega
    intro v' w2 ho4 hg4 _
    go_wp2
    go_roundw
    case rel=>exact ⟨j + 1,_,l ++ [(⟨s.toArray⟩:ByteArray)[j]'hbk],by omega,by simp;omega,by go_num,rfl,OwnB.snoc ho4,HN,hbo.grown hg4 hbo.size (fun k hk=>(World.ownsRow.lt ho1 k hk).1)⟩
    case measure=>simp [intOf];omega
   have hk':((((⟨s.toArray⟩:ByteArray)[j]'hbk).toNat:Int) == 92) = false:=beq_eq_false_iff_ne.2 hk
   have HN:Hid (rdVal s = ((l ++ [(⟨s.toArray⟩:ByteArray)[j]'hbk]) ++ (rdVal (s.drop (j + 1))).1,(rdVal (s.drop (j + 1))).2)):=by
     show _ = _
     rw [HR.out,rd_plain hlt hq1 (zcg (k:=92) (by decide) hk)]
     simp
     rfl
   clear HR hq hq1 hk hcv
   skip
   have ho1:=ho.later (bal (Below.refl _ _) (.cells #[by8 ((⟨s.toArray⟩:ByteArray)[j]'hbk)] 5))
   have hbo:=bal hb (.cells #[by8 ((⟨s.toArray⟩:ByteArray)[j]'hbk)] 5)
   go_wp2_with (at_builtin;go_must (refine wpList_append_own _ rfl _ _ 55 rfl w.heap.size 5 i0 (.int .u8 0) 1 1 Tryz.underlying55 hi hz0 hz1 hz2 rfl (by decide) _ _ _ rfl ho1 ⟨wr.heap.size,0,none⟩ 1 1 [by8 ((⟨s.toArray⟩:ByteArray)[j]'hbk)] rfl rfl (zbk (World.cell?_alloc_new wr _ _ 0)) (fun u hu=>by cases hu with | head=>rfl | tail _ h=>cases h) ?h63 ?hby ?hbs ?_))
   case h63=>unfold maxLen;omega
   case hby=>omega
   case hbs=>have:=hb.size;simp;omega
   intro v' w2 ho4 hg4 _
   go_wp2
   go_roundw
   case rel=>exact ⟨j + 1,_,l ++ [(⟨s.toArray⟩:ByteArray)[j]'hbk],by omega,by simp;omega,by go_num,rfl,OwnB.snoc ho4,HN,hbo.grown hg4 hbo.size (fun k hk=>(World.ownsRow.lt ho1 k hk).1)⟩
   case measure=>simp [intOf];omega
  have HQ:Hid (rdVal s = (l,[])):=by
   show _ = _
   rw [HR.out,List.drop_eq_nil_of_le (by omega)]
   simp [rdVal]
  clear HR
  have hc0:=hcv wr (Below.refl _ _)
  clear hcv
  go_wp2
  go_ret2
  exact ⟨by rw [HQ.out];rfl,hb⟩
open Go.RowKit
theorem cut_parts (s:Str) (c:UInt8) (r:Str):(Lib.cut s (c :: r)).1.length ≤ s.length ∧ (Lib.cut s (c :: r)).2.1.length ≤ s.length ∧ ((Lib.cut s (c :: r)).2.2 = true → (Lib.cut s (c :: r)).1.length + (Lib.cut s (c :: r)).2.1.length + r.length + 1 ≤ s.length):=by
 have hge:=Lib.index_ge s (c :: r)
 unfold Lib.cut
 by_cases h:0 ≤ Lib.index s (c :: r)
 ·
  rw [if_pos h]
  have hc:∃ i:Nat,Lib.index s (c :: r) = i:=⟨(Lib.index s (c :: r)).toNat,by omega⟩
  obtain ⟨i,hi⟩:=hc
  have hr:i + (c :: r).length ≤ s.length:=by
   have:=Lib.indexB_cases ⟨s.toArray⟩ ⟨(c :: r).toArray⟩
   have e:Lib.indexB ⟨s.toArray⟩ ⟨(c :: r).toArray⟩ = Lib.index s (c :: r):=rfl
   rw [e,hi] at this
   rcases this with h | ⟨k,hk,hl⟩
   ·
    omega
   rw [zau,zau] at hl
   omega
  rw [hi]
  simp at hr ⊢
  omega
 rw [if_neg h]
 simp
theorem trim_len (s:Str) (p:Str):(Lib.trimPrefix s p).length ≤ s.length:=Lib.trimPrefix_le s p
def nextR (s:Str):Str:=Lib.trimPrefix (rdVal (Lib.cut s [61,34]).2.1).2 [44]
def nextP (s:Str):Pr:=((Lib.cut s [61,34]).1,(rdVal (Lib.cut s [61,34]).2.1).1)
theorem zej {s:Str} (h:(Lib.cut s [61,34]).2.2 = true):(nextR s).length + 2 ≤ s.length:=by
 have h1:=(cut_parts s 61 [34]).2.2 h
 have h2:=zjg (Lib.cut s [61,34]).2.1
 have h3:=trim_len (rdVal (Lib.cut s [61,34]).2.1).2 [44]
 unfold nextR
 simp at h1
 omega
theorem nextP_len (s:Str):(nextP s).1.length ≤ s.length ∧ (nextP s).2.length ≤ s.length:=by
 have h1:=cut_parts s 61 [34]
 have h2:=zjg (Lib.cut s [61,34]).2.1
 unfold nextP
 exact ⟨h1.1,by simp;omega⟩
theorem zcr (k:Nat) (s:Str):rdPairs (k + 1) s = if (Lib.cut s [61,34]).2.2 = true then nextP s :: rdPairs k (nextR s) else []:=rfl
theorem zjh:∀ (k:Nat) (s:Str),s.length < k → rdPairs k s = rdPairs (s.length + 1) s:=by
 intro k
 induction k using Nat.strongRecOn with
 | ind k ih=>
  intro s hk
  cases k with
  | zero=>omega
  | succ k=>
   rw [zcr,zcr]
   by_cases h:(Lib.cut s [61,34]).2.2 = true
   ·
    rw [if_pos h,if_pos h]
    have hl:=zej h
    rw [ih k (by omega) _ (by omega)]
    rw [ih s.length (by omega) (nextR s) (by omega)]
   rw [if_neg h,if_neg h]
def rdP (s:Str):List Pr:=rdPairs (s.length + 1) s
theorem zla {s:Str} (h:(Lib.cut s [61,34]).2.2 = true):rdP s = nextP s :: rdP (nextR s):=by
 unfold rdP
 rw [zcr,if_pos h,zjh _ _ (by have:=zej h;omega)]
theorem rdP_no {s:Str} (h:(Lib.cut s [61,34]).2.2 = false):rdP s = []:=by
 unfold rdP
 rw [zcr,h]
 rfl
theorem rdP_len:∀ (n:Nat) (s:Str),s.length ≤ n → (∀ p ∈ rdP s,p.1.length ≤ s.length ∧ p.2.length ≤ s.length) ∧ (rdP s).length ≤ s.length:=by
 intro n
 induction n using Nat.strongRecOn with
 | ind n ih=>
  intro s hs
  cases h:(Lib.cut s [61,34]).2.2 with
  | false=>rw [rdP_no h];simp
  | true=>
   have hl:=zej h
   obtain ⟨i1,i2⟩:=ih (nextR s).length (by omega) (nextR s) (Nat.le_refl _)
   rw [zla h]
   refine ⟨fun p hp=>?_,by simp;omega⟩
   rcases List.mem_cons.1 hp with rfl | hp
   ·
    exact nextP_len s
   have:=i1 p hp;omega
def headP (s:Str):List Pr:=if (Lib.cut s [123]).1 = [] then [] else [(nm,(Lib.cut s [123]).1)]
theorem zmu (s:Str):rdAll s = headP s ++ rdP (Lib.cut s [123]).2.1:=rfl
theorem rdAll_len (s:Str):(∀ p ∈ rdAll s,p.1.length ≤ s.length + 8 ∧ p.2.length ≤ s.length) ∧ (rdAll s).length ≤ s.length + 1:=by
 have h1:=cut_parts s 123 []
 obtain ⟨i1,i2⟩:=rdP_len _ (Lib.cut s [123]).2.1 (Nat.le_refl _)
 rw [zmu]
 unfold headP
 constructor
 ·
  intro p hp
  rcases List.mem_append.1 hp with hp | hp
  ·
   split at hp
   ·
    cases hp
   simp at hp
   subst hp
   simp [nm]
   omega
  have:=i1 p hp;omega
 rw [List.length_append]
 have:(if (Lib.cut s [123]).1 = [] then ([]:List Pr) else [(nm,(Lib.cut s [123]).1)]).length ≤ 1:=by split <;> simp
 omega
theorem cutS_any (s sep:Str) (w:World) (hs:s.length ≤ 1000000) (hm:Mx w):Calls Tryz.prog 91 #[tx s,tx sep] w fun e w'=>e = .returned (.tuple #[tx (Lib.cut s sep).1,tx (Lib.cut s sep).2.1,.bool (Lib.cut s sep).2.2]) ∧ Below w.heap.size w w':=by
 obtain ⟨m,hm⟩:=hm
 refine (Tryz.strings_Cut ⟨s.toArray⟩ ⟨sep.toArray⟩ m w (by rw [zau];omega) hm).mono ?_
 rintro e w' ⟨rfl,k,rfl⟩
 exact ⟨rfl,below_drewN (Below.refl _ _) k⟩
theorem trim_any (s p:Str) (w:World):Calls Tryz.prog 233 #[tx s,tx p] w fun e w'=>e = .returned (tx (Lib.trimPrefix s p)) ∧ w = w':=by
 refine (Tryz.strings_TrimPrefix ⟨s.toArray⟩ ⟨p.toArray⟩ w).mono ?_
 rintro e w' ⟨rfl,rfl⟩
 exact ⟨rfl,rfl⟩
theorem Box.put1 {w:World} {b:Nat} {p:Pr} (h:Box w b p) (v:Str):Box (w.setCell ⟨b,1,none⟩ (tx v)) b (p.1,v):=by
 obtain ⟨c0,c1,f0,f1⟩:=h
 constructor
 ·
  rw [World.cell?_setCell_other _ _ _ _ (by intro e;cases e)];exact c0
 ·
  exact World.cell?_setCell_same' _ _ _ (by rw [c1];rfl)
 ·
  simpa using f0
 simpa using f1
def strLen:Value → Nat
 | .string b=>b.size
 | _=>0
theorem zef (s:Str):strLen (tx s) = s.length:=zau s
set_option maxRecDepth 20000 in
theorem zdm (s:Str) (w:World) (hs:s.length ≤ 100000) (hm:Mx w):Calls Tryz.prog 286 #[tx s] w fun e w'=>∃ v,e = .returned v ∧ Own w' w.heap.size v (rdAll s) ∧ Below w.heap.size w w':=by
 obtain ⟨i0,hi,hz0,hz1,hz2⟩:=zbj
 have hc:=cutS_any s [123] w (by omega) hm
 have hcl1:=(cut_parts s 123 []).2.1
 have HA:Hid (rdAll s = headP s ++ rdP (Lib.cut s [123]).2.1):=zmu s
 have HH:Hid (headP s = if (Lib.cut s [123]).1 = [] then [] else [(nm,(Lib.cut s [123]).1)]):=rfl
 generalize rdAll s = R at *
 generalize headP s = hd at *
 generalize Lib.cut s [123] = C at *
 obtain ⟨ms,rest,fd⟩:=C
 dsimp only at *
 by_cases hme:ms = []
 ·
  have hme':(ms == []) = true:=by simpa using hme
  have HD:Hid (hd = []):=by show _ = _;rw [HH.out,if_pos hme]
  clear hme HH
  go_enter Tryz.func286,Tryz.ntmps286
  go_wp2_with fail
  refine hc.mono ?_
  rintro e w1 ⟨rfl,hb1⟩
  go_wp2_with fail
  go_loopw [4,6] (fun t u wr=>∃ (r:Str) (v:Value) (l:List Pr),r.length ≤ rest.length ∧ l.length + r.length ≤ rest.length + 1 ∧ t = tx r ∧ v = u ∧ Own wr w.heap.size v l ∧ Hid (R = l ++ rdP r) ∧ Below w.heap.size w wr) (fun t _ _=>strLen t)
  case atStart=>exact ⟨rest,_,[],by omega,by simp,rfl,rfl,World.ownsRow_made w1 #[] 0 hb1.size (Nat.zero_le _) (by simp),by show _ = _;rw [HA.out,HD.out],bal hb1 _⟩
  case round=>
   obtain ⟨r,v,l,hr,hlr,rfl,rfl,ho,HR,hb⟩:=hrel
   have hc2:=cutS_any r [61,34] wr (by omega) (hm.later hb)
   have hcp:=(cut_parts r 61 [34]).2.1
   cases hf:(Lib.cut r [61,34]).2.2 with
   | false=>
    have HQ:Hid (R = l):=by show _ = _;rw [HR.out,rdP_no hf,List.append_nil]
    rw [hf] at hc2
    clear HR hf hcp
    generalize (Lib.cut r [61,34]).1 = a at *
    generalize (Lib.cut r [61,34]).2.1 = b at *
    go_wp2_with fail
    refine hc2.mono ?_
    rintro e w2 ⟨rfl,hb2⟩
    go_wp2
    go_ret
    exact ⟨_,rfl,by rw [HQ.out];exact ho.later hb2,hb.trans (hb2.mono hb.size)⟩
   | true=>
    have hnl:=zej hf
    have HQ:Hid (R = (l ++ [nextP r]) ++ rdP (nextR r)):=by show _ = _;rw [HR.out,zla hf];simp
    have HP:Hid (nextP r = ((Lib.cut r [61,34]).1,(rdVal (Lib.cut r [61,34]).2.1).1)):=rfl
    have HN:Hid (nextR r = Lib.trimPrefix (rdVal (Lib.cut r [61,34]).2.1).2 [44]):=rfl
    rw [hf] at hc2
    clear HR hf
    rw [HN.out] at hnl
    rw [HP.out,HN.out] at HQ
    clear HP HN
    generalize (Lib.cut r [61,34]).1 = a at *
    generalize (Lib.cut r [61,34]).2.1 = b at *
    have hrv:=fun W=>zeh b W (by omega)
    generalize rdVal b = D at *
    obtain ⟨x,y⟩:=D
    dsimp only at *
    have htr:=trim_any y [44]
    generalize Lib.trimPrefix y [44] = z at *
    go_wp2_with fail
    refine hc2.mono ?_
    rintro e w2 ⟨rfl,hb2⟩
    have hb02:Below w.heap.size w w2:=hb.trans (hb2.mono hb.size)
    have hbx:=Box.new w2 (a,[])
    have hbn:=bal (Below.refl _ w2) (.cells #[tx a,tx []] 69)
    go_wp2_with fail
    refine (hrv _).mono ?_
    rintro e w4 ⟨rfl,hb4⟩
    have hbx4:=hbx.later hb4
    have hbx5:=hbx4.put1 x
    have B25:=(Below.chain hbn hb4).setCell (p:=⟨w2.heap.size,1,none⟩) (Nat.le_refl _) (tx x)
    have ho5:=(ho.later hb2).later B25
    have hb05:=hb02.trans (B25.mono hb02.size)
    obtain ⟨c0,c1,f0,f1⟩:=hbx4
    obtain ⟨d0,d1,_,_⟩:=hbx5
    have ho6:=ho5.later (bal (Below.refl _ _) (.cells #[tx a,tx x] 69))
    have hbo:=bal hb05 (.cells #[tx a,tx x] 69)
    have hbx6:=Box.new (w4.setCell ⟨w2.heap.size,1,none⟩ (tx x)) (a,x)
    go_wp2_with (first | (at_builtin;go_must (refine wpList_append_own _ rfl _ _ 63 rfl w.heap.size 69 i0 (.agg #[tx [],tx []]) 2 32 Tryz.underlying63 hi hz0 hz1 hz2 zgt (by decide) _ _ _ rfl ho6 ⟨(w4.setCell ⟨w2.heap.size,1,none⟩ (tx x)).heap.size,0,none⟩ 1 1 (cellsP [(a,x)]) ?hx rfl hbx6.cells (zck _) ?h63 ?hby hbo.size ?_)))
    case hx=>simp [Act.eval]
    case h63=>unfold maxLen;omega
    case hby=>omega
    intro v' w7 ho7 hg7 _
    go_wp2_with (go_at_call 233;refine (htr _).mono ?_;rintro e w' ⟨rfl,rfl⟩)
    go_roundw
    case rel=>exact ⟨z,_,l ++ [(a,x)],by omega,by simp;omega,rfl,rfl,Own.snoc ho7,HQ,hbo.grown hg7 hbo.size (fun k hk=>(World.ownsRow.lt ho6 k hk).1)⟩
    case measure=>rw [zef,zef];omega
 have hme':(ms == []) = false:=by simpa using hme
 have HD:Hid (hd = [(nm,ms)]):=by show _ = _;rw [HH.out,if_neg hme]
 clear hme HH
 go_enter Tryz.func286,Tryz.ntmps286
 go_wp2_with fail
 refine hc.mono ?_
 rintro e w1 ⟨rfl,hb1⟩
 have ho1:Own (w1.alloc (.cells #[] 69)) w.heap.size (.slice (some ⟨w1.heap.size,0,none⟩) 0 0) []:=World.ownsRow_made w1 #[] 0 hb1.size (Nat.zero_le _) (by simp)
 have ho2:=ho1.later (bal (Below.refl _ _) (.cells #[tx nm,tx ms] 69))
 have hbo:=bal (bal hb1 (.cells #[] 69)) (.cells #[tx nm,tx ms] 69)
 have hbx:=Box.new (w1.alloc (.cells #[] 69)) (nm,ms)
 go_wp2_with (at_builtin;go_must (refine wpList_append_own _ rfl _ _ 63 rfl w.heap.size 69 i0 (.agg #[tx [],tx []]) 2 32 Tryz.underlying63 hi hz0 hz1 hz2 zgt (by decide) _ _ _ rfl ho2 ⟨(w1.alloc (.cells #[] 69)).heap.size,0,none⟩ 1 1 (cellsP [(nm,ms)]) ?hx rfl hbx.cells (zck _) ?h63 ?hby hbo.size ?_))
 case hx=>simp [Act.eval]
 case h63=>unfold maxLen;simp
 case hby=>simp
 intro v1 w2 ho3 hg3 _
 have hb3:=hbo.grown hg3 hbo.size (fun k hk=>(World.ownsRow.lt ho2 k hk).1)
 have ho4:Own w2 w.heap.size v1 ([] ++ [(nm,ms)]):=Own.snoc ho3
 clear ho1 ho2 hbo hbx ho3 hg3 hb1
 go_wp2_with fail
 go_loopw [4,6] (fun t u wr=>∃ (r:Str) (v:Value) (l:List Pr),r.length ≤ rest.length ∧ l.length + r.length ≤ rest.length + 1 ∧ t = tx r ∧ v = u ∧ Own wr w.heap.size v l ∧ Hid (R = l ++ rdP r) ∧ Below w.heap.size w wr) (fun t _ _=>strLen t)
 case atStart=>exact ⟨rest,_,[(nm,ms)],by omega,by simp;omega,rfl,rfl,ho4,by show _ = _;rw [HA.out,HD.out],hb3⟩
 case round=>
  obtain ⟨r,v,l,hr,hlr,rfl,rfl,ho,HR,hb⟩:=hrel
  have hc2:=cutS_any r [61,34] wr (by omega) (hm.later hb)
  have hcp:=(cut_parts r 61 [34]).2.1
  cases hf:(Lib.cut r [61,34]).2.2 with
  | false=>
   have HQ:Hid (R = l):=by show _ = _;rw [HR.out,rdP_no hf,List.append_nil]
   rw [hf] at hc2
   clear HR hf hcp
   generalize (Lib.cut r [61,34]).1 = a at *
   generalize (Lib.cut r [61,34]).2.1 = b at *
   go_wp2_with fail
   refine hc2.mono ?_
   rintro e w2 ⟨rfl,hb2⟩
   go_wp2
   go_ret
   exact ⟨_,rfl,by rw [HQ.out];exact ho.later hb2,hb.trans (hb2.mono hb.size)⟩
  | true=>
   have hnl:=zej hf
   have HQ:Hid (R = (l ++ [nextP r]) ++ rdP (nextR r)):=by show _ = _;rw [HR.out,zla hf];simp
   have HP:Hid (nextP r = ((Lib.cut r [61,34]).1,(rdVal (Lib.cut r [61,34]).2.1).1)):=rfl
   have HN:Hid (nextR r = Lib.trimPrefix (rdVal (Lib.cut r [61,34]).2.1).2 [44]):=rfl
   rw [hf] at hc2
   clear HR hf
   rw [HN.out] at hnl
   rw [HP.out,HN.out] at HQ
   clear HP HN
   generalize (Lib.cut r [61,34]).1 = a at *
   generalize (Lib.cut r [61,34]).2.1 = b at *
   have hrv:=fun W=>zeh b W (by omega)
   generalize rdVal b = D at *
   obtain ⟨x,y⟩:=D
   dsimp only at *
   have htr:=trim_any y [44]
   generalize Lib.trimPrefix y [44] = z at *
   go_wp2_with fail
   refine hc2.mono ?_
   rintro e w2 ⟨rfl,hb2⟩
   have hb02:Below w.heap.size w w2:=hb.trans (hb2.mono hb.size)
   have hbx:=Box.new w2 (a,[])
   have hbn:=bal (Below.refl _ w2) (.cells #[tx a,tx []] 69)
   go_wp2_with fail
   refine (hrv _).mono ?_
   rintro e w4 ⟨rfl,hb4⟩
   have hbx4:=hbx.later hb4
   have hbx5:=hbx4.put1 x
   have B25:=(Below.chain hbn hb4).setCell (p:=⟨w2.heap.size,1,none⟩) (Nat.le_refl _) (tx x)
   have ho5:=(ho.later hb2).later B25
   have hb05:=hb02.trans (B25.mono hb02.size)
   obtain ⟨c0,c1,f0,f1⟩:=hbx4
   obtain ⟨d0,d1,_,_⟩:=hbx5
   have ho6:=ho5.later (bal (Below.refl _ _) (.cells #[tx a,tx x] 69))
   have hbo:=bal hb05 (.cells #[tx a,tx x] 69)
   have hbx6:=Box.new (w4.setCell ⟨w2.heap.size,1,none⟩ (tx x)) (a,x)
   go_wp2_with (first | (at_builtin;go_must (refine wpList_append_own _ rfl _ _ 63 rfl w.heap.size 69 i0 (.agg #[tx [],tx []]) 2 32 Tryz.underlying63 hi hz0 hz1 hz2 zgt (by decide) _ _ _ rfl ho6 ⟨(w4.setCell ⟨w2.heap.size,1,none⟩ (tx x)).heap.size,0,none⟩ 1 1 (cellsP [(a,x)]) ?hx rfl hbx6.cells (zck _) ?h63 ?hby hbo.size ?_)))
   case hx=>simp [Act.eval]
   case h63=>unfold maxLen;omega
   case hby=>omega
   intro v' w7 ho7 hg7 _
   go_wp2_with (go_at_call 233;refine (htr _).mono ?_;rintro e w' ⟨rfl,rfl⟩)
   go_roundw
   case rel=>exact ⟨z,_,l ++ [(a,x)],by omega,by simp;omega,rfl,rfl,Own.snoc ho7,HQ,hbo.grown hg7 hbo.size (fun k hk=>(World.ownsRow.lt ho6 k hk).1)⟩
   case measure=>rw [zef,zef];omega
open Go.RowKit
theorem rdAll_fit {s:Str} (hs:s.length ≤ 100000):Fit (rdAll s):=fun p hp=>by
 have:=(rdAll_len s).1 p hp
 omega
theorem make_fit {l:List Pr} (h:Fit l):Fit (makeL l):=by
 unfold makeL
 split
 ·
  exact fun p hp=>h p (List.mem_filter.1 ((zcw _).mem_iff.1 hp)).1
 exact fun p hp=>by cases hp
theorem make_len (l:List Pr):(makeL l).length ≤ l.length:=by
 unfold makeL
 split
 ·
  rw [(zcw _).length_eq]
  exact List.length_filter_le _ _
 simp
theorem parse_any (s:Str) (w:World) (hs:s.length ≤ 100000) (hm:Mx w) :
  Calls Tryz.prog 238 #[tx s] w fun e w'=>∃ v,e = .returned (.tuple #[v,.int .i64 (parseE s)]) ∧ Own w' w.heap.size v (parseL s) ∧ Below w.heap.size w w':=by
 have hr:=zdm s w hs hm
 have hlen:=(rdAll_len s).2
 have hfit:=rdAll_fit hs
 have HO:Hid (okParse s = (decide (makeE (rdAll s) = 0) && decide (fPrint (makeL (rdAll s)) = s))):=rfl
 have HPL:Hid (parseL s = if okParse s = true then makeL (rdAll s) else []):=rfl
 have HPE:Hid (parseE s = if okParse s = true then 0 else 30):=rfl
 have hmf:=make_fit hfit
 have hml:=make_len (rdAll s)
 generalize rdAll s = l at *
 have hmk:=fun (W:World) (xa:Option Addr) (c:Nat) (h:Ps W xa l.length l)=>zna xa l.length c l W (by omega) hfit h
 have hce:makeE l = 0 ∨ (makeE l = 31 ∨ makeE l = 30):=by
  unfold makeE
  split
  ·
   simp
  split <;> simp
 generalize makeL l = q at *
 generalize makeE l = E at *
 generalize parseE s = PE at *
 generalize parseL s = PL at *
 generalize okParse s = ok at *
 rcases hce with rfl | hne
 ·
  by_cases hpr:fPrint q = s
  ·
   have HE:Hid (PE = 0):=by show _ = _;rw [HPE.out,HO.out];simp [hpr]
   have HL:Hid (PL = q):=by show _ = _;rw [HPL.out,HO.out];simp [hpr]
   have hpr':(fPrint q == s) = true:=by simpa using hpr
   clear HPE HPL HO
   go_enter Tryz.func238,Tryz.ntmps238
   go_wp2_with fail
   refine hr.mono ?_
   rintro e w1 ⟨v1,rfl,ho1,hb1⟩
   obtain ⟨ao,cap,rfl,hps⟩:=ho1.fitN
   have hmk1:=hmk w1 ao cap hps
   go_wp2_with fail
   refine hmk1.mono ?_
   rintro e w2 ⟨v2,rfl,ho2,hb2⟩
   obtain ⟨ao2,cap2,rfl,hps2⟩:=ho2.fitN
   have hp:=print_any ao2 q.length cap2 q w2 (by omega) hmf ((hm.later hb1).later hb2) hps2
   generalize fPrint q = t at *
   go_wp2_with fail
   refine hp.mono ?_
   rintro e w3 ⟨rfl,hb3⟩
   go_wp2
   go_ret2
   exact ⟨_,by rw [HE.out];rfl,by rw [HL.out];exact (ho2.base hb1.size).later hb3,Below.chain (Below.chain hb1 hb2) hb3⟩
  have HE:Hid (PE = 30):=by show _ = _;rw [HPE.out,HO.out];simp [hpr]
  have HL:Hid (PL = []):=by show _ = _;rw [HPL.out,HO.out];simp [hpr]
  have hpr':(fPrint q == s) = false:=by simpa using hpr
  clear HPE HPL HO
  go_enter Tryz.func238,Tryz.ntmps238
  go_wp2_with fail
  refine hr.mono ?_
  rintro e w1 ⟨v1,rfl,ho1,hb1⟩
  obtain ⟨ao,cap,rfl,hps⟩:=ho1.fitN
  have hmk1:=hmk w1 ao cap hps
  go_wp2_with fail
  refine hmk1.mono ?_
  rintro e w2 ⟨v2,rfl,ho2,hb2⟩
  obtain ⟨ao2,cap2,rfl,hps2⟩:=ho2.fitN
  have hp:=print_any ao2 q.length cap2 q w2 (by omega) hmf ((hm.later hb1).later hb2) hps2
  generalize fPrint q = t at *
  go_wp2_with fail
  refine hp.mono ?_
  rintro e w3 ⟨rfl,hb3⟩
  go_wp2
  go_ret2
  exact ⟨_,by rw [HE.out];rfl,by rw [HL.out];exact Own.none _ _,Below.chain (Below.chain hb1 hb2) hb3⟩
 have hE0:E ≠ 0:=by omega
 have HE:Hid (PE = 30):=by show _ = _;rw [HPE.out,HO.out];simp [hE0]
 have HL:Hid (PL = []):=by show _ = _;rw [HPL.out,HO.out];simp [hE0]
 have hE':(E != 0) = true:=by rw [bne_iff_ne];exact hE0
 clear HPE HPL HO hE0 hne
 go_enter Tryz.func238,Tryz.ntmps238
 go_wp2_with fail
 refine hr.mono ?_
 rintro e w1 ⟨v1,rfl,ho1,hb1⟩
 obtain ⟨ao,cap,rfl,hps⟩:=ho1.fitN
 have hmk1:=hmk w1 ao cap hps
 go_wp2_with fail
 refine hmk1.mono ?_
 rintro e w2 ⟨v2,rfl,ho2,hb2⟩
 obtain ⟨ao2,cap2,rfl,hps2⟩:=ho2.fitN
 go_wp2
 go_ret2
 exact ⟨_,by rw [HE.out];rfl,by rw [HL.out];exact Own.none _ _,Below.chain hb1 hb2⟩
end Go.Proofs.YtjlaihekocjggaaGreatDoor.Lb
