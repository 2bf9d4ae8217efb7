/- Texts that the others lean on. -/
import Derived.Test.YtjlaihekocjggaaGreatDoorKQRKn
namespace Go.Proofs.YtjlaihekocjggaaGreatDoor
open Go.RowKit
theorem zji (s:Str) (a y:Int) (w:World) (hs:s.length ≤ 1000000) (h:(pF s).2 = (a,y)) (he:Ev w) (het:Et w):Calls Tryz.prog 24 #[tx s] w fun e w'=>∃ cs,e = .returned (.tuple #[.agg cs,.int .i64 a,.int .i64 y]) ∧ Row 2 cs ∧ Below w.heap.size w w':=by
 refine (zet s w hs he het).mono ?_
 rintro e w' ⟨cs,rfl,cf,b⟩
 exact ⟨cs,by rw [h],cf.row,b⟩
def rp:Nat → Str
 | 0=>[]
 | n + 1=>rp n ++ [35,32,120,10,10]
theorem rp_len:∀ n,(rp n).length = 5 * n
 | 0=>rfl
 | n + 1=>by rw [rp,List.length_append,rp_len n];simp;omega
theorem rp_all:(List.range 20).all (fun m=>decide ((pX (rp m ++ [119,104,97,116,10])).2 = (((5 * m:Nat):Int) + 0,12)) && decide ((pX (rp m ++ [114,101,99,111,114,100,32,114,32,61,32,49,10])).2 = (((5 * m:Nat):Int) + 0,12)) && decide ((pX (rp m ++ [103,114,111,117,112,32,97,32,101,118,101,114,121,32,49,10,114,101,99,111,114,100,32,114,32,61,32,49,32,43,32,36,10])).2 = (((5 * m:Nat):Int) + 31,70)) && decide ((pX (rp m ++ [103,114,111,117,112,32,97,32,101,118,101,114,121,32,49,10,107,101,101,112,32,97,32,61,32,34,34,10])).2 = (((5 * m:Nat):Int) + 16,12)) && decide ((pX (rp m ++ [103,114,111,117,112,32,97,32,101,118,101,114,121,32,49,10,103,114,111,117,112,32,97,32,101,118,101,114,121,32,50,10])).2 = (((5 * m:Nat):Int) + 16,31))) = true:=by kernel_rfl
theorem rp_facts {m:Nat} (h:m < 20):(pF (rp m ++ [119,104,97,116,10])).2 = (((rp m).length:Int) + 0,12) ∧ (pF (rp m ++ [114,101,99,111,114,100,32,114,32,61,32,49,10])).2 = (((rp m).length:Int) + 0,12) ∧ (pF (rp m ++ [103,114,111,117,112,32,97,32,101,118,101,114,121,32,49,10,114,101,99,111,114,100,32,114,32,61,32,49,32,43,32,36,10])).2 = (((rp m).length:Int) + 31,70) ∧ (pF (rp m ++ [103,114,111,117,112,32,97,32,101,118,101,114,121,32,49,10,107,101,101,112,32,97,32,61,32,34,34,10])).2 = (((rp m).length:Int) + 16,12) ∧ (pF (rp m ++ [103,114,111,117,112,32,97,32,101,118,101,114,121,32,49,10,103,114,111,117,112,32,97,32,101,118,101,114,121,32,50,10])).2 = (((rp m).length:Int) + 16,31):=by
 have:=List.all_eq_true.1 rp_all m (List.mem_range.2 h)
 simp only [Bool.and_eq_true,decide_eq_true_eq,pX_eq] at this
 rw [rp_len]
 obtain ⟨⟨⟨⟨h1,h2⟩,h3⟩,h4⟩,h5⟩:=this
 exact ⟨h1,h2,h3,h4,h5⟩
set_option maxHeartbeats 8000000 in
set_option maxRecDepth 4000 in
theorem places_m (b x:Int) (m:Nat) (hm:b.tmod 20 = m) (hm2:m < 20) (w:World) (he:Ev w) (het:Et w):Calls Tryz.prog 8 #[.int .u8 b,.int .u8 x] w fun e w'=>e = .returned (.bool true) ∧ Below w.heap.size w w':=by
 have hkn:=zol w he het
 have HE:Hid (Ev w):=he
 have HT:Hid (Et w):=het
 have V:Hid _:=rp_facts hm2
 clear he het
 go_enter Tryz.func8,Tryz.ntmps8
 go_wp2_with fail
 refine hkn.mono ?_
 rintro e w1 ⟨rfl,b1⟩
 clear hkn
 go_wp2_with fail
 go_loopw [5,6] (fun t i wr=>∃ j:Nat,j ≤ m ∧ t = tx (rp j) ∧ i = .int .i64 j ∧ w1 = wr) (fun _ i _=>m - (intOf i).toNat)
 case atStart=>exact ⟨0,by omega,rfl,rfl,rfl⟩
 case round=>
  obtain ⟨j,hj,rfl,rfl,rfl⟩:=hrel
  obtain ⟨R,HR⟩:∃ R:Str,Hid (R = rp j):=⟨rp j,rfl⟩
  have hR:R.length ≤ 100:=by rw [HR.out,rp_len];omega
  rw [← HR.out]
  by_cases hlt:j < m
  ·
   have hlt':(j:Int) < m:=by omega
   go_wp2_with (refine zbm rfl 9 9 _ _ rfl _ _ rfl rfl (by simp;omega) ?_)
   go_roundw
   case rel=>exact ⟨j + 1,by omega,by rw [HR.out];rfl,by go_num,trivial⟩
   case measure=>simp [intOf];omega
  ·
   have hlt':¬ (j:Int) < m:=by omega
   have e:j = m:=by omega
   subst e
   obtain ⟨v1,v2,v3,v4,v5⟩:=V.out
   rw [← HR.out] at v1 v2 v3 v4 v5
   have h16:IntKind.i64.wrap ((R.length:Int) + 16) = (R.length:Int) + 16:=by rw [IntKind.wrap_i64];omega
   have h27:IntKind.i64.wrap ((R.length:Int) + 16 + 11) = (R.length:Int) + 27:=by rw [IntKind.wrap_i64];omega
   have h31:IntKind.i64.wrap ((R.length:Int) + 27 + 4) = (R.length:Int) + 31:=by rw [IntKind.wrap_i64];omega
   rw [Int.add_zero] at v1 v2
   have hp1:=fun W=>zji (R ++ [119,104,97,116,10]) _ _ W (by simp;omega) v1
   have hp2:=fun W=>zji (R ++ [114,101,99,111,114,100,32,114,32,61,32,49,10]) _ _ W (by simp;omega) v2
   have hp3:=fun W=>zji (R ++ [103,114,111,117,112,32,97,32,101,118,101,114,121,32,49,10,114,101,99,111,114,100,32,114,32,61,32,49,32,43,32,36,10]) _ _ W (by simp;omega) v3
   have hp4:=fun W=>zji (R ++ [103,114,111,117,112,32,97,32,101,118,101,114,121,32,49,10,107,101,101,112,32,97,32,61,32,34,34,10]) _ _ W (by simp;omega) v4
   have hp5:=fun W=>zji (R ++ [103,114,111,117,112,32,97,32,101,118,101,114,121,32,49,10,103,114,111,117,112,32,97,32,101,118,101,114,121,32,50,10]) _ _ W (by simp;omega) v5
   clear V HR v1 v2 v3 v4 v5
   go_wp2_with (refine zbm rfl 9 9 _ _ rfl _ _ rfl rfl (by simp;omega) ?_)
   refine (hp1 _ (HE.out.later b1) (HT.out.later b1)).mono ?_
   rintro e w1a ⟨c1,rfl,r1,s1⟩
   go_wp2_with (first | (refine zad rfl 39 _ _ rfl w1a.heap.size c1 rfl rfl _ 39 (zac w1a (.cells #[.slice none 0 0,.slice none 0 0] 39)) 2 rz39 rfl r1 ?_;intro w1b p1 o1 z1;have d1:=((Off.of (bal (Below.refl w1a.heap.size w1a) (.cells #[.slice none 0 0,.slice none 0 0] 39)) []).trans o1 (by simp)).below (by simp)) | (refine zbm rfl 9 9 _ _ rfl _ _ rfl rfl (by simp;omega) ?_))
   have B1:=Below.chain (Below.chain b1 s1) d1
   clear hp1 p1 o1 z1
   refine (hp2 _ (HE.out.later B1) (HT.out.later B1)).mono ?_
   rintro e w2a ⟨c2,rfl,r2,s2⟩
   go_wp2_with (first | (refine zad rfl 39 _ _ rfl w2a.heap.size c2 rfl rfl _ 39 (zac w2a (.cells #[.slice none 0 0,.slice none 0 0] 39)) 2 rz39 rfl r2 ?_;intro w2b p2 o2 z2;have d2:=((Off.of (bal (Below.refl w2a.heap.size w2a) (.cells #[.slice none 0 0,.slice none 0 0] 39)) []).trans o2 (by simp)).below (by simp)) | (refine zbm rfl 9 9 _ _ rfl _ _ rfl rfl (by simp;omega) ?_))
   have B2:=Below.chain (Below.chain B1 s2) d2
   clear hp2 p2 o2 z2
   refine (hp3 _ (HE.out.later B2) (HT.out.later B2)).mono ?_
   rintro e w3a ⟨c3,rfl,r3,s3⟩
   go_wp2_with (first | (refine zad rfl 39 _ _ rfl w3a.heap.size c3 rfl rfl _ 39 (zac w3a (.cells #[.slice none 0 0,.slice none 0 0] 39)) 2 rz39 rfl r3 ?_;intro w3b p3 o3 z3;have d3:=((Off.of (bal (Below.refl w3a.heap.size w3a) (.cells #[.slice none 0 0,.slice none 0 0] 39)) []).trans o3 (by simp)).below (by simp)) | (refine zbm rfl 9 9 _ _ rfl _ _ rfl rfl (by simp;omega) ?_))
   have B3:=Below.chain (Below.chain B2 s3) d3
   clear hp3 p3 o3 z3
   refine (hp4 _ (HE.out.later B3) (HT.out.later B3)).mono ?_
   rintro e w4a ⟨c4,rfl,r4,s4⟩
   go_wp2_with (first | (refine zad rfl 39 _ _ rfl w4a.heap.size c4 rfl rfl _ 39 (zac w4a (.cells #[.slice none 0 0,.slice none 0 0] 39)) 2 rz39 rfl r4 ?_;intro w4b p4 o4 z4;have d4:=((Off.of (bal (Below.refl w4a.heap.size w4a) (.cells #[.slice none 0 0,.slice none 0 0] 39)) []).trans o4 (by simp)).below (by simp)) | (refine zbm rfl 9 9 _ _ rfl _ _ rfl rfl (by simp;omega) ?_))
   have B4:=Below.chain (Below.chain B3 s4) d4
   clear hp4 p4 o4 z4
   refine (hp5 _ (HE.out.later B4) (HT.out.later B4)).mono ?_
   rintro e w5a ⟨c5,rfl,r5,s5⟩
   go_wp2_with (first | (refine zad rfl 39 _ _ rfl w5a.heap.size c5 rfl rfl _ 39 (zac w5a (.cells #[.slice none 0 0,.slice none 0 0] 39)) 2 rz39 rfl r5 ?_;intro w5b p5 o5 z5;have d5:=((Off.of (bal (Below.refl w5a.heap.size w5a) (.cells #[.slice none 0 0,.slice none 0 0] 39)) []).trans o5 (by simp)).below (by simp)) | (refine zbm rfl 9 9 _ _ rfl _ _ rfl rfl (by simp;omega) ?_))
   have B5:=Below.chain (Below.chain B4 s5) d5
   clear hp5 p5 o5 z5
   go_ret
   exact ⟨by simp,B5⟩
theorem zod (b x:Int) (hb0:0 ≤ b) (w:World) (he:Ev w) (het:Et w):Calls Tryz.prog 8 #[.int .u8 b,.int .u8 x] w fun e w'=>e = .returned (.bool true) ∧ Below w.heap.size w w':=by
 have h1:0 ≤ b.tmod 20:=Int.tmod_nonneg _ hb0
 have h2:b.tmod 20 < 20:=Int.tmod_lt_of_pos _ (by decide)
 exact places_m b x (b.tmod 20).toNat (by omega) (by omega) w he het
theorem places_row (b x:Nat) (w:World) (_hb:b ≤ 255) (_hx:x ≤ 255) (he:Ev w ∧ Et w):Calls Tryz.prog 8 #[.int .u8 b,.int .u8 x] w fun e w'=>e = .returned (.bool true) ∧ Below w.heap.size w w':=zod b x (by omega) w he.1 he.2
end Go.Proofs.YtjlaihekocjggaaGreatDoor
