/- The law RulesBuilt. -/
import Derived.Test.YtjlaihekocjggaaGreatDoorKRBt1
import Derived.Test.YtjlaihekocjggaaGreatDoorKMU
set_option maxHeartbeats 16000000
namespace Go.Proofs.YtjlaihekocjggaaGreatDoor.Bt
open Go.RowKit
set_option maxRecDepth 4000 in
theorem built_good (a b:Nat → Nat) (v:Str) (hv:Hid (Lt v)) (hl1:1 ≤ v.length) (hl2:v.length ≤ 20) (w:World) (he:Ev w) (het:Et w):Calls Tryz.prog 9 #[ar3 a,ar3 b,tx v] w fun e w'=>e = .returned (.bool true) ∧ Below w.heap.size w w':=by
 obtain ⟨x0,y0,B0⟩:=boxes w a b
 have hkn:=zol ((w.alloc (bc a)).alloc (bc b)) (he.later B0) (het.later B0)
 have HE:Hid (Ev w):=he
 have HT:Hid (Et w):=het
 have hl0:((v.length:Int) == 0) = false:=beq_eq_false_iff_ne.2 (by omega)
 have hl3:¬ (20:Int) < (v.length:Int):=by omega
 clear he het
 go_enter Tryz.func9,Tryz.ntmps9
 go_wp2_with fail
 refine hkn.mono ?_
 rintro e w1 ⟨rfl,b1⟩
 have C1:=Below.chain B0 b1
 have HA:Hid (w1.heap[w.heap.size]? = some (bc a)):=zab b1 x0
 have HB:Hid (w1.heap[w.heap.size + 1]? = some (bc b)):=zab b1 y0
 clear hkn b1 B0 x0 y0
 go_wp2_with fail
 go_loop [7] (fun i=>∃ j:Nat,j ≤ v.length ∧ i = .int .i64 j) (fun i=>v.length + 1 - (intOf i).toNat)
 case atStart=>exact ⟨0,by omega,rfl⟩
 case round=>
  obtain ⟨j,hj,rfl⟩:=hrel
  by_cases hjl:j < v.length
  ·
   have hbk:=zed hjl
   have hlt':(j:Int) < (v.length:Int):=by omega
   have e1:((⟨v.toArray⟩:ByteArray)[j]'hbk) = v[j]:=rfl
   obtain ⟨q1,q2⟩:=hv.out v[j] (List.getElem_mem hjl)
   rw [← e1] at q1 q2
   have q1':¬ (((⟨v.toArray⟩:ByteArray)[j]'hbk).toNat:Int) < 97:=by omega
   have q2':¬ (122:Int) < (((⟨v.toArray⟩:ByteArray)[j]'hbk).toNat:Int):=by omega
   clear e1 q1 q2
   go_wp2
   go_round
   case rel=>exact ⟨j + 1,by omega,by go_num⟩
   case measure=>simp [intOf];omega
  ·
   have hlt':¬ (j:Int) < (v.length:Int):=by omega
   clear hj hjl
   go_wp2_with fail
   go_loopw [8,9,10,11,12] (fun s g e d k wr=>∃ j:Nat,j ≤ 3 ∧ s = tx (bS v a b j) ∧ g = .int .i64 j ∧ Below w1.heap.size w1 wr) (fun _ g _ _ _ _=>4 - (intOf g).toNat)
   case atStart=>exact ⟨0,by omega,rfl,rfl,Below.refl _ _⟩
   case round=>
    obtain ⟨g,hg,rfl,rfl,hbw⟩:=hrel
    obtain ⟨R,HR⟩:∃ R:Str,Hid (R = bS v a b g):=⟨_,rfl⟩
    have hR:R.length ≤ 1820:=by have:=bS_len (v:=v) (a:=a) (b:=b) hl2 g hg;rw [HR.out];omega
    rw [← HR.out]
    by_cases hlt:g < 3
    ·
     have hg':(g:Int) < 3:=by omega
     have hca:=bc_cell (zab hbw HA.out) hlt
     have hcb:∀ W,Below wr.heap.size wr W → W.cell? ⟨w.heap.size + 1,g,none⟩ = some (.int .u8 (b g:Nat)):=fun W hW=>bc_cell (zab hW (zab hbw HB.out)) hlt
     obtain ⟨m,hm⟩:∃ m:Nat,Hid (m = a g % 20):=⟨_,rfl⟩
     obtain ⟨k,hk⟩:∃ k:Nat,Hid (k = b g % 9):=⟨_,rfl⟩
     have hm':((a g:Nat):Int).tmod 20 = (m:Int):=by rw [hm.out];exact tmod_nat _ 20
     have hk':((b g:Nat):Int).tmod 9 = (k:Int):=by rw [hk.out];exact tmod_nat _ 9
     have hm2:m < 20:=by rw [hm.out];omega
     have hk2:k < 9:=by rw [hk.out];omega
     obtain ⟨ev,hev⟩:∃ ev:Nat,Hid (ev = m + 1):=⟨_,rfl⟩
     have hev':IntKind.i64.wrap ((m:Int) + 1) = (ev:Int):=by rw [IntKind.wrap_i64,hev.out];omega
     obtain ⟨r,hr⟩:∃ r:Nat,Hid (r = ev % 10):=⟨_,rfl⟩
     have hr':(ev:Int).tmod 10 = (r:Int):=by rw [hr.out];exact tmod_nat _ 10
     have hr2:r < 10:=by rw [hr.out];omega
     have h48:IntKind.i64.wrap (48 + (r:Int)) = 48 + (r:Int):=by rw [IntKind.wrap_i64];omega
     have h49:IntKind.i64.wrap (48 + (g:Int)) = 48 + (g:Int):=by rw [IntKind.wrap_i64];omega
     have cv1:=cv_one wr r hr2
     obtain ⟨cr,hcr⟩:∃ c:UInt8,Hid (c = UInt8.ofNat (48 + r)):=⟨_,rfl⟩
     rw [← hcr.out] at cv1
     obtain ⟨cg,hcg⟩:∃ c:UInt8,Hid (c = UInt8.ofNat (48 + g)):=⟨_,rfl⟩
     have z1:(wr.alloc (.cells #[.int .u8 (48 + (r:Int))] 5)).heap.size = wr.heap.size + 1:=by simp
     by_cases h9:9 < ev
     ·
      have h9':(9:Int) < (ev:Int):=by omega
      obtain ⟨q,hq⟩:∃ q:Nat,Hid (q = ev / 10):=⟨_,rfl⟩
      have hq':(ev:Int).tdiv 10 = (q:Int):=by rw [hq.out];exact tdiv_nat _ 10
      have hq2:q < 10:=by rw [hq.out];have:=hev.out;omega
      have h47:IntKind.i64.wrap (48 + (q:Int)) = 48 + (q:Int):=by rw [IntKind.wrap_i64];omega
      have cv2:=cv_one (wr.alloc (.cells #[.int .u8 (48 + (r:Int))] 5)) q hq2
      have cv3:=cv_one ((wr.alloc (.cells #[.int .u8 (48 + (r:Int))] 5)).alloc (.cells #[.int .u8 (48 + (q:Int))] 5)) g (by omega)
      have z2:((wr.alloc (.cells #[.int .u8 (48 + (r:Int))] 5)).alloc (.cells #[.int .u8 (48 + (q:Int))] 5)).heap.size = wr.heap.size + 1 + 1:=by simp
      obtain ⟨cq,hcq⟩:∃ c:UInt8,Hid (c = UInt8.ofNat (48 + q)):=⟨_,rfl⟩
      rw [← hcq.out,z1] at cv2
      rw [← hcg.out,z2] at cv3
      clear z1 z2
      have HD:Hid (dgs ev = [cq,cr]):=by
       show _ = _
       unfold dgs
       rw [if_pos h9,hcq.out,hcr.out,hq.out,hr.out]
      have HG:Hid (g < 3):=hlt
      clear h9 hlt hg
      go_wp2_with (first | (refine zbm rfl 9 9 _ _ rfl _ _ rfl rfl (by simp;omega) ?_))
      obtain ⟨S0,HS0⟩:∃ S:Str,Hid (S = bS v a b g ++ lnG g ev ++ ([10]:Str)):=⟨bS v a b g ++ lnG g ev ++ ([10]:Str),rfl⟩
      have hS0:S0.length ≤ 1900:=by
       have h1:=(g_one (g:=g) (e:=ev) HG.out (by have:=hev.out;omega) (by have:=hev.out;omega)).2.2.2.2
       rw [HS0.out,← HR.out,List.length_append,List.length_append]
       simp
       omega
      have HS:Hid (S0 = R ++ [103,114,111,117,112,32,103] ++ [cg] ++ [32,101,118,101,114,121,32] ++ ([cq] ++ [cr]) ++ [10]):=by
       show _ = _
       rw [HS0.out,← HR.out]
       unfold lnG
       rw [HD.out,← hcg.out]
       simp
      go_loopw [8,12] (fun s i wv=>∃ n:Nat,n ≤ k ∧ s = tx (S0 ++ tR v n) ∧ i = .int .i64 n ∧ Below wr.heap.size wr wv) (fun _ i _=>k + 1 - (intOf i).toNat)
      case atStart=>exact ⟨0,by omega,by rw [HS.out];simp [tR],rfl,bal (bal (bal (Below.refl _ _) _) _) _⟩
      case round=>
       obtain ⟨n,hn,rfl,rfl,hbv⟩:=hrel
       have hcb':=hcb _ hbv
       obtain ⟨U,HU⟩:∃ U:Str,Hid (U = S0 ++ tR v n):=⟨_,rfl⟩
       have hU:U.length ≤ 2500:=by
        have h1:=tR_len v n
        have h2:n * (2 * v.length + 22) ≤ 8 * (2 * v.length + 22):=Nat.mul_le_mul_right _ (by omega)
        rw [HU.out,List.length_append]
        omega
       rw [← HU.out]
       by_cases hnk:n < k
       ·
        have hnk':(n:Int) < (k:Int):=by omega
        clear hn hnk hcb
        go_wp2_with (first | (refine zbm rfl 9 9 _ _ rfl _ _ rfl rfl (by simp;omega) ?_))
        go_roundw
        case rel=>exact ⟨n + 1,by omega,by rw [tR_s,← List.append_assoc,← HU.out];simp [lnR],by go_num,hbv⟩
        case measure=>simp [intOf];omega
       ·
        have hnk':¬ (n:Int) < (k:Int):=by omega
        have HN:Hid (n = k):=by show _ = _;omega
        clear hn hnk hcb
        go_wp2_with fail
        go_roundw
        case rel=>
         refine ⟨g + 1,HG.out,?_,by go_num,Below.chain hbw hbv⟩
         show tx U = tx (bS v a b g ++ tG v g (a g % 20 + 1) (b g % 9))
         rw [HU.out,HS0.out,HN.out,← hm.out,← hk.out,← hev.out]
         unfold tG
         simp
        case measure=>have:=HG.out;simp [intOf];omega
     ·
      have h9':¬ (9:Int) < (ev:Int):=by omega
      have cv3:=cv_one (wr.alloc (.cells #[.int .u8 (48 + (r:Int))] 5)) g (by omega)
      rw [← hcg.out,z1] at cv3
      clear z1
      have HD:Hid (dgs ev = [cr]):=by
       show _ = _
       unfold dgs
       rw [if_neg h9,hcr.out,hr.out]
      have HG:Hid (g < 3):=hlt
      clear h9 hlt hg
      go_wp2_with (first | (refine zbm rfl 9 9 _ _ rfl _ _ rfl rfl (by simp;omega) ?_))
      obtain ⟨S0,HS0⟩:∃ S:Str,Hid (S = bS v a b g ++ lnG g ev ++ ([10]:Str)):=⟨bS v a b g ++ lnG g ev ++ ([10]:Str),rfl⟩
      have hS0:S0.length ≤ 1900:=by
       have h1:=(g_one (g:=g) (e:=ev) HG.out (by have:=hev.out;omega) (by have:=hev.out;omega)).2.2.2.2
       rw [HS0.out,← HR.out,List.length_append,List.length_append]
       simp
       omega
      have HS:Hid (S0 = R ++ [103,114,111,117,112,32,103] ++ [cg] ++ [32,101,118,101,114,121,32] ++ [cr] ++ [10]):=by
       show _ = _
       rw [HS0.out,← HR.out]
       unfold lnG
       rw [HD.out,← hcg.out]
       simp
      go_loopw [8,12] (fun s i wv=>∃ n:Nat,n ≤ k ∧ s = tx (S0 ++ tR v n) ∧ i = .int .i64 n ∧ Below wr.heap.size wr wv) (fun _ i _=>k + 1 - (intOf i).toNat)
      case atStart=>exact ⟨0,by omega,by rw [HS.out];simp [tR],rfl,bal (bal (Below.refl _ _) _) _⟩
      case round=>
       obtain ⟨n,hn,rfl,rfl,hbv⟩:=hrel
       have hcb':=hcb _ hbv
       obtain ⟨U,HU⟩:∃ U:Str,Hid (U = S0 ++ tR v n):=⟨_,rfl⟩
       have hU:U.length ≤ 2500:=by
        have h1:=tR_len v n
        have h2:n * (2 * v.length + 22) ≤ 8 * (2 * v.length + 22):=Nat.mul_le_mul_right _ (by omega)
        rw [HU.out,List.length_append]
        omega
       rw [← HU.out]
       by_cases hnk:n < k
       ·
        have hnk':(n:Int) < (k:Int):=by omega
        clear hn hnk hcb
        go_wp2_with (first | (refine zbm rfl 9 9 _ _ rfl _ _ rfl rfl (by simp;omega) ?_))
        go_roundw
        case rel=>exact ⟨n + 1,by omega,by rw [tR_s,← List.append_assoc,← HU.out];simp [lnR],by go_num,hbv⟩
        case measure=>simp [intOf];omega
       ·
        have hnk':¬ (n:Int) < (k:Int):=by omega
        have HN:Hid (n = k):=by show _ = _;omega
        clear hn hnk hcb
        go_wp2_with fail
        go_roundw
        case rel=>
         refine ⟨g + 1,HG.out,?_,by go_num,Below.chain hbw hbv⟩
         show tx U = tx (bS v a b g ++ tG v g (a g % 20 + 1) (b g % 9))
         rw [HU.out,HS0.out,HN.out,← hm.out,← hk.out,← hev.out]
         unfold tG
         simp
        case measure=>have:=HG.out;simp [intOf];omega
    ·
     have hg':¬ (g:Int) < 3:=by omega
     have HR3:Hid (R = tH ++ tG v 0 (a 0 % 20 + 1) (b 0 % 9) ++ tG v 1 (a 1 % 20 + 1) (b 1 % 9) ++ tG v 2 (a 2 % 20 + 1) (b 2 % 9)):=by
      show _ = _
      rw [HR.out,show g = 3 by omega]
      rfl
     have V:Hid (pF R = (cC v a b,0,0)):=by
      show _ = _
      rw [HR3.out]
      exact built hv.out hl1 hl2 ⟨by omega,by omega⟩ ⟨by omega,by omega⟩ ⟨by omega,by omega⟩ (by omega) (by omega) (by omega)
     have hp:=zet R wr (by omega) (HE.out.later (Below.chain C1 hbw)) (HT.out.later (Below.chain C1 hbw))
     rw [V.out] at hp
     dsimp only at hp
     clear HR HR3 V hlt hg
     go_wp2_with fail
     refine hp.mono ?_
     rintro e v1 ⟨cs,rfl,cf,s1⟩
     have row:=cf.row
     obtain ⟨rb,ro,cl,gb,gf,cg,rfl,kt,kg⟩:=cf_all cf
     have HK:Hid _:=kg
     clear hp cf kg
     go_wp2_with (first | go_skip | go_guarded | (refine zad rfl 39 _ _ rfl v1.heap.size _ rfl rfl _ 39 (zac v1 (.cells #[.slice none 0 0,.slice none 0 0] 39)) 2 rz39 rfl row ?_;intro v2 p1 o1 z1;have d1:=((Off.of (bal (Below.refl v1.heap.size v1) (.cells #[.slice none 0 0,.slice none 0 0] 39)) []).trans o1 (by simp)).below (by simp);have m0:=(zaa p1 0).trans rfl;have m1:=(zaa p1 1).trans rfl;have kt2:=cell_up d1 kt))
     have D2:=Below.chain (Below.chain (Below.chain C1 hbw) s1) d1
     have HP:Hid (v2.heap[v1.heap.size]? = some (.cells #[.slice (some ⟨rb,ro,none⟩) 1 cl,.slice (some ⟨gb,gf,none⟩) 3 cg] 39)):=p1
     have HA2:Hid (v2.heap[w.heap.size]? = some (bc a)):=zab d1 (zab s1 (zab hbw HA.out))
     have HB2:Hid (v2.heap[w.heap.size + 1]? = some (bc b)):=zab d1 (zab s1 (zab hbw HB.out))
     clear m0 m1 kt kt2 p1 o1 z1 HA HB C1 hbw s1 row
     obtain ⟨wq,hwq⟩:∃ x:World,x = wr:=⟨_,rfl⟩
     subst hwq
     go_loopw [16,17,18,19,20,21] (fun g n r x p e wx=>∃ j:Nat,j ≤ 3 ∧ g = .int .i64 j ∧ Below v2.heap.size v2 wx) (fun g _ _ _ _ _ _=>4 - (intOf g).toNat)
     case atStart=>exact ⟨0,by omega,rfl,Below.refl _ _⟩
     case round=>
      obtain ⟨j,hj,rfl,hbx⟩:=hrel
      obtain ⟨wx,hwx⟩:∃ x:World,x = wr:=⟨_,rfl⟩
      subst hwx
      by_cases hlt:j < 3
      ·
       have hj':(j:Int) < 3:=by omega
       obtain ⟨ra,rc,k1,k2,hrs⟩:=HK.out j hlt
       obtain ⟨m,hm⟩:∃ m:Nat,Hid (m = a j % 20):=⟨_,rfl⟩
       obtain ⟨k,hk⟩:∃ k:Nat,Hid (k = b j % 9):=⟨_,rfl⟩
       have hm':((a j:Nat):Int).tmod 20 = (m:Int):=by rw [hm.out];exact tmod_nat _ 20
       have hk':((b j:Nat):Int).tmod 9 = (k:Int):=by rw [hk.out];exact tmod_nat _ 9
       have hm2:m < 20:=by rw [hm.out];omega
       have hk2:k < 9:=by rw [hk.out];omega
       have wm:Hid (IntKind.i64.wrap (m:Int) = m):=by show _ = _;rw [IntKind.wrap_i64];omega
       have wk:Hid (IntKind.i64.wrap (k:Int) = k):=by show _ = _;rw [IntKind.wrap_i64];omega
       obtain ⟨ev,hev⟩:∃ ev:Nat,Hid (ev = m + 1):=⟨_,rfl⟩
       have hev':IntKind.i64.wrap ((m:Int) + 1) = (ev:Int):=by rw [IntKind.wrap_i64,hev.out];omega
       rw [← hm.out,← hev.out] at k1
       rw [← hk.out] at k2 hrs
       have B2:Below v1.heap.size v1 wx:=Below.chain d1 hbx
       have U1:∀ W,Below wx.heap.size wx W → W.cell? ⟨v1.heap.size,1,none⟩ = some (.slice (some ⟨gb,gf,none⟩) 3 cg):=fun W hW=>(zaa (zab hW (zab hbx HP.out)) 1).trans rfl
       have U2:∀ W,Below wx.heap.size wx W → W.cell? ⟨gb,gf + j * 3 + 1,none⟩ = some (.int .i64 ev):=fun W hW=>cell_up hW (cell_up B2 k1)
       have U3:∀ W,Below wx.heap.size wx W → W.cell? ⟨gb,gf + j * 3 + 2,none⟩ = some (.slice ra k rc):=fun W hW=>cell_up hW (cell_up B2 k2)
       have U4:∀ W,Below wx.heap.size wx W → W.cell? ⟨w.heap.size,j,none⟩ = some (.int .u8 (a j:Nat)):=fun W hW=>bc_cell (zab hW (zab hbx HA2.out)) hlt
       have U5:∀ W,Below wx.heap.size wx W → W.cell? ⟨w.heap.size + 1,j,none⟩ = some (.int .u8 (b j:Nat)):=fun W hW=>bc_cell (zab hW (zab hbx HB2.out)) hlt
       have HJ:Hid (j < 3):=hlt
       have HRS:Hid (RsP (fun x=>wq.heap.size ≤ x) wx (.slice ra k rc) (List.replicate k (RV v))):=hrs.later B2
       clear k1 k2 hrs hlt hj B2
       go_wp2_with fail
       refine wp_region_noPanic ?_
       refine wp_region_held_drew (S:=fun W=>Below wx.heap.size wx W) (by kernel_rfl) ?_ (fun _=>?_)
       ·
        exact (zag wx)
       refine tk 0 148 (.pointer (some ⟨v1.heap.size,1,none⟩)) rfl (fun W hSw=>by go_simp) (zag wx) ?_
       simp only [Act.put,pB,pC,pD]
       refine tk 1 149 (.slice (some ⟨gb,gf,none⟩) 3 cg) rfl (fun W hSw=>by go_simp) (zag wx) ?_
       simp only [Act.put,pB,pC,pD]
       refine tk 2 150 (.int .i64 j) rfl (fun W hSw=>by go_simp) (zag wx) ?_
       simp only [Act.put,pB,pC,pD]
       refine tk 3 151 (.pointer (some ⟨gb,gf + j * 3,none⟩)) rfl (fun W hSw=>by go_simp) (zag wx) ?_
       simp only [Act.put,pB,pC,pD]
       refine tk 4 152 (.pointer (some ⟨gb,gf + j * 3 + 1,none⟩)) rfl (fun W hSw=>by go_simp) (zag wx) ?_
       simp only [Act.put,pB,pC,pD]
       refine tk 5 153 (.int .i64 ev) rfl (fun W hSw=>by go_simp) (zag wx) ?_
       simp only [Act.put,pB,pC,pD]
       refine tk 6 154 (.int .i64 j) rfl (fun W hSw=>by go_simp) (zag wx) ?_
       simp only [Act.put,pB,pC,pD]
       refine tk 7 155 (.pointer (some ⟨w.heap.size,j,none⟩)) rfl (fun W hSw=>by go_simp) (zag wx) ?_
       simp only [Act.put,pB,pC,pD]
       refine tk 8 156 (.int .u8 (a j:Nat)) rfl (fun W hSw=>by go_simp) (zag wx) ?_
       simp only [Act.put,pB,pC,pD]
       refine tk 9 157 (.int .u8 m) rfl (fun W hSw=>by go_simp) (zag wx) ?_
       simp only [Act.put,pB,pC,pD]
       refine tk 10 158 (.int .i64 m) rfl (fun W hSw=>by go_simp;exact wm.out) (zag wx) ?_
       simp only [Act.put,pB,pC,pD]
       refine tk 11 159 (.int .i64 ev) rfl (fun W hSw=>by go_simp) (zag wx) ?_
       simp only [Act.put,pB,pC,pD]
       refine tk 12 160 (.bool false) rfl (fun W hSw=>by go_simp) (zag wx) ?_
       simp only [Act.put,pB,pC,pD]
       refine tk 13 161 (.bool false) rfl (fun W hSw=>by go_simp) (zag wx) ?_
       simp only [Act.put,pB,pC,pD]
       refine tk 14 162 (.pointer (some ⟨v1.heap.size,1,none⟩)) rfl (fun W hSw=>by go_simp) (zag wx) ?_
       simp only [Act.put,pB,pC,pD]
       refine tk 15 163 (.slice (some ⟨gb,gf,none⟩) 3 cg) rfl (fun W hSw=>by go_simp) (zag wx) ?_
       simp only [Act.put,pB,pC,pD]
       refine tk 16 164 (.int .i64 j) rfl (fun W hSw=>by go_simp) (zag wx) ?_
       simp only [Act.put,pB,pC,pD]
       refine tk 17 165 (.pointer (some ⟨gb,gf + j * 3,none⟩)) rfl (fun W hSw=>by go_simp) (zag wx) ?_
       simp only [Act.put,pB,pC,pD]
       refine tk 18 166 (.pointer (some ⟨gb,gf + j * 3 + 2,none⟩)) rfl (fun W hSw=>by go_simp) (zag wx) ?_
       simp only [Act.put,pB,pC,pD]
       refine tk 19 167 (.slice ra k rc) rfl (fun W hSw=>by go_simp) (zag wx) ?_
       simp only [Act.put,pB,pC,pD]
       refine tk 20 168 (.int .i64 k) rfl (fun W hSw=>by go_simp) (zag wx) ?_
       simp only [Act.put,pB,pC,pD]
       refine tk 21 169 (.int .i64 j) rfl (fun W hSw=>by go_simp) (zag wx) ?_
       simp only [Act.put,pB,pC,pD]
       refine tk 22 170 (.pointer (some ⟨w.heap.size + 1,j,none⟩)) rfl (fun W hSw=>by go_simp) (zag wx) ?_
       simp only [Act.put,pB,pC,pD]
       refine tk 23 171 (.int .u8 (b j:Nat)) rfl (fun W hSw=>by go_simp) (zag wx) ?_
       simp only [Act.put,pB,pC,pD]
       refine tk 24 172 (.int .u8 k) rfl (fun W hSw=>by go_simp) (zag wx) ?_
       simp only [Act.put,pB,pC,pD]
       refine tk 25 173 (.int .i64 k) rfl (fun W hSw=>by go_simp;exact wk.out) (zag wx) ?_
       simp only [Act.put,pB,pC,pD]
       refine tk 26 174 (.bool false) rfl (fun W hSw=>by go_simp) (zag wx) ?_
       simp only [Act.put,pB,pC,pD]
       refine tk 27 175 (.bool false) rfl (fun W hSw=>by go_simp) (zag wx) ?_
       simp only [Act.put,pB,pC,pD]
       refine wpAnyH_done (by kernel_rfl) ?_ _
       refine NoPanic.normal ?_
       have D29:=zag wx
       clear U4 U5
       go_wp2_with fail
       go_loopw [17,18,19,20,21] (fun n r x p e wy=>∃ i:Nat,i ≤ k ∧ n = .int .i64 i ∧ Below wx.heap.size wx wy) (fun n _ _ _ _ _=>k + 1 - (intOf n).toNat)
       case atStart=>exact ⟨0,by omega,rfl,D29⟩
       case round=>
        obtain ⟨i,hi,rfl,hby⟩:=hrel
        obtain ⟨wy,hwy⟩:∃ x:World,x = wr:=⟨_,rfl⟩
        subst hwy
        have u1:=U1 _ hby
        have u3:=U3 _ hby
        have hrs:=HRS.out.later hby
        by_cases hik:i < k
        ·
         have hik':(i:Int) < (k:Int):=by omega
         obtain ⟨fb,fo,ce,sb,si,sc,rfl,rng,row,htr,kv⟩:=rs_at hrs hik
         have ce13:=htr.row.1
         have hps:=fun W=>parse_any (v ++ [32,43,32,49]) W (by simp;omega)
         have q0:=zac wy (.cells #[.string ⟨#[]⟩,.int .i64 0,.int .i64 0,.bool false,.int .i64 0,.string ⟨#[]⟩,.slice none 0 0,.int .i64 0,.bool false,.bool false,.bool false,.bool false,.slice none 0 0,.slice none 0 0,.slice none 0 0] 65)
         have C3:Below w.heap.size w wy:=Below.chain (Below.chain D2 hbx) hby
         have HW:Hid _:=htr
         have HI:Hid (i < k):=hik
         clear hrs hik hi htr U1 U2 U3
         go_wp2_with (first | (refine zbm rfl 9 9 _ _ rfl _ _ rfl rfl (by simp;omega) ?_) | (refine zbi rfl 65 _ rfl fb (fo + i * 15) _ rfl rng _ Tryz.underlying65 rfl 15 rz65 row.1 ?_) | (refine zad rfl 65 _ _ rfl wy.heap.size _ rfl rfl _ 65 q0 15 rz65 rfl row ?_;intro w3 p3 o3 z3;have b3:=((Off.of (bal (Below.refl wy.heap.size wy) (.cells #[.string ⟨#[]⟩,.int .i64 0,.int .i64 0,.bool false,.int .i64 0,.string ⟨#[]⟩,.slice none 0 0,.int .i64 0,.bool false,.bool false,.bool false,.bool false,.slice none 0 0,.slice none 0 0,.slice none 0 0] 65)) []).trans o3 (by simp)).below (by simp)))
         refine (hps _ (HE.out.later (Below.chain C3 b3))).mono ?_
         rintro e w4 ⟨ce2,rfl,ht2,b4⟩
         have row2:=ht2.row
         have q4:=zac w4 (.cells #[.int .i64 0,.int .i64 0,.bool false,.int .i64 0,.string ⟨#[]⟩,.slice none 0 0,.int .i64 0,.bool false,.bool false,.bool false,.bool false,.slice none 0 0,.slice none 0 0] 28)
         have p4:=zab b4 p3
         have HS:Hid _:=ht2
         clear hps ht2 u1 u3 rng row q0 o3 z3 p3
         go_wp2_with (first | go_skip | (refine wp_rg _ rfl wy.heap.size 1 ce rfl (by rfl) rg5 ce13 ?_) | (refine wp_rg _ rfl w4.heap.size 0 ce2 rfl (by rfl) (rg_of p5) row2.1 ?_) | go_guarded | (refine zad rfl 28 _ _ rfl w4.heap.size ce2 rfl rfl _ 28 q4 13 rz28 rfl row2 ?_;intro w5 p5 o5 z5;have b5:=((Off.of (bal (Below.refl w4.heap.size w4) (.cells #[.int .i64 0,.int .i64 0,.bool false,.int .i64 0,.string ⟨#[]⟩,.slice none 0 0,.int .i64 0,.bool false,.bool false,.bool false,.bool false,.slice none 0 0,.slice none 0 0] 28)) []).trans o5 (by simp)).below (by simp);have p6:=zab b5 p4;have B6:Below wy.heap.size wy w5:=Below.chain (Below.chain b3 b4) b5;have r0:w5.cell? ⟨wy.heap.size,0,none⟩ = some (tx [114]):=(zaa p6 0).trans zkv;have r14:w5.cell? ⟨wy.heap.size,14,none⟩ = some (.slice (some ⟨sb,si,none⟩) 1 sc):=(zaa p6 14).trans (ruA_14 ce13);have r5:=cell_up B6 kv;have rg5:=zmv p6 ce13) | (refine zbi rfl 28 _ rfl wy.heap.size 1 ce rfl rg5 _ Tryz.underlying28 rfl 13 rz28 ce13 ?_) | (refine zaj rfl 28 _ rfl w4.heap.size ce2 28 rfl p5 _ Tryz.underlying28 rfl 13 rz28 row2.1 ?_))
         refine (same_ok (psX (xR v)) (psX (xR v)) (ps_sm _).1 _ ce ce2 (TrP.later HW.out B6) (TrP.later HS.out b5)).mono ?_
         rintro e w6 ⟨rfl,b6⟩
         rw [sm_self]
         go_wp2_with fail
         go_roundw
         case rel=>exact ⟨i + 1,HI.out,by go_num,Below.chain hby (Below.chain B6 b6)⟩
         case measure=>have:=HI.out;simp [intOf];omega
        ·
         have hik':¬ (i:Int) < (k:Int):=by omega
         clear hrs hik hi
         go_wp2_with fail
         go_roundw
         case rel=>exact ⟨j + 1,HJ.out,by go_num,Below.chain hbx hby⟩
         case measure=>have:=HJ.out;simp [intOf];omega
      ·
       have hj':¬ (j:Int) < 3:=by omega
       clear hlt hj
       go_wp2_with fail
       go_ret
       exact ⟨by simp,Below.chain D2 hbx⟩
theorem list3 {α:Type} (l:List α) (h:l.length = 3):∃ a b c,l = [a,b,c]:=by
 match l,h with
 | [a,b,c],_=>exact ⟨a,b,c,rfl⟩
set_option maxRecDepth 100000 in
theorem ar3_of {H:Type} {enc:TypeId × Value → H} {W:World} {base b0:Nat} {r:Reach} {spare:Nat → Bool} {held:Bool} {v:Value} {d:DataW H} {p:List MemPlace} (hval:Value.okWide Tryz.prog W r b0 54 v) (h:DataW.Trod enc Tryz.prog W base spare held 54 v d p):∃ f:Nat → Nat,v = ar3 f:=by
 obtain ⟨cs,rfl,hsz,_⟩:∃ cs,v = .agg cs ∧ cs.size = Tryz.prog.cellsOf 54 ∧ Row.okWide Tryz.prog W r b0 54 cs:=by
  simpa [Value.okWide,Tryz.underlying54] using hval
 rw [show Tryz.prog.cellsOf 54 = 3 by kernel_rfl] at hsz
 obtain ⟨l⟩:=cs
 obtain ⟨e0,e1,e2,rfl⟩:=list3 l hsz
 obtain ⟨fuel,hf⟩:=h
 obtain ⟨xs,m,_,_,_,hl,hel⟩:=DataW.trod_array Tryz.underlying54 hf
 rw [show Tryz.prog.cellsOf 5 = 1 by kernel_rfl] at hel
 have get:∀ i,i < 3 → ∃ y,xs[i]? = some y:=fun i hi=>⟨xs[i]'(by omega),List.getElem?_eq_getElem (by omega)⟩
 obtain ⟨g0,hg0⟩:=get 0 (by omega)
 obtain ⟨g1,hg1⟩:=get 1 (by omega)
 obtain ⟨g2,hg2⟩:=get 2 (by omega)
 obtain ⟨x0,f0,_,y0⟩:=DataW.trod_int Tryz.underlying5 ((hel 0 (by omega)).trans hg0)
 obtain ⟨x1,f1,_,y1⟩:=DataW.trod_int Tryz.underlying5 ((hel 1 (by omega)).trans hg1)
 obtain ⟨x2,f2,_,y2⟩:=DataW.trod_int Tryz.underlying5 ((hel 2 (by omega)).trans hg2)
 simp [Value.cells] at f0 f1 f2
 subst f0 f1 f2
 have low:∀ x:Int,(Lit.int .u8 x).wf = true → ((x.toNat:Nat):Int) = x:=fun x hx=>by
  have:0 ≤ x ∧ x ≤ 255:=by simpa [Lit.wf,IntKind.min,IntKind.max,IntKind.signed,IntKind.bits] using hx
  omega
 refine ⟨fun n=>if n = 0 then x0.toNat else if n = 1 then x1.toNat else x2.toNat,?_⟩
 simp [low x0 y0,low x1 y1,low x2 y2]
theorem first_bad (v:Str):Lt v ∨ ∃ p,p < v.length ∧ (∀ j (_:j < v.length),j < p → 97 ≤ v[j].toNat ∧ v[j].toNat ≤ 122) ∧ ∀ h:p < v.length,¬ (97 ≤ v[p].toNat ∧ v[p].toNat ≤ 122):=by
 induction v with
 | nil=>exact .inl (fun _ h=>by cases h)
 | cons c l ih=>
  by_cases hc:97 ≤ c.toNat ∧ c.toNat ≤ 122
  ·
   rcases ih with ih | ⟨p,hp,h1,h2⟩
   ·
    refine .inl (fun x hx=>?_)
    rcases List.mem_cons.1 hx with rfl | hx
    ·
     exact hc
    ·
     exact ih x hx
   ·
    refine .inr ⟨p + 1,by simp;omega,fun j hj hjp=>?_,fun h=>h2 hp⟩
    cases j with
    | zero=>exact hc
    | succ j=>exact h1 j (by simpa using hj) (by omega)
  ·
   exact .inr ⟨0,by simp,fun j _ h=>by omega,fun _=>hc⟩
theorem built_row (a b:Nat → Nat) (v:Str) (w:World) (hl:v.length ≤ 9223372036854775807) (he:Ev w ∧ Et w):Calls Tryz.prog 9 #[ar3 a,ar3 b,tx v] w fun e w'=>e = .returned (.bool true) ∧ Below w.heap.size w w':=by
 rcases first_bad v with h | ⟨p,hp,h1,h2⟩
 ·
  by_cases h0:v.length = 0 ∨ 20 < v.length
  ·
   exact built_len a b v hl h h0 w he.1 he.2
  ·
   exact built_good a b v h (by omega) (by omega) w he.1 he.2
 ·
  exact built_bad a b v p hp hl h1 (h2 hp) w he.1 he.2
end Go.Proofs.YtjlaihekocjggaaGreatDoor.Bt
