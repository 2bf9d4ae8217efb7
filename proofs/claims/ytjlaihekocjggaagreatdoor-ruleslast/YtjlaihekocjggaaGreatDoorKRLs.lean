/- The law RulesLast: the first error counts. -/
import Derived.Test.YtjlaihekocjggaaGreatDoorKRLsP
set_option maxHeartbeats 16000000
namespace Go.Proofs.YtjlaihekocjggaaGreatDoor
open Go.RowKit
set_option maxRecDepth 4000 in
theorem last_any (s t:Str) (w:World) (he:Ev w) (het:Et w):Calls Tryz.prog 10 #[tx s,tx t] w fun e w'=>e = .returned (.bool true) ∧ Below w.heap.size w w':=by
 have hkn:=zol w he het
 have HE:Hid (Ev w):=he
 have HT:Hid (Et w):=het
 clear he het
 by_cases h1:s.length ≤ 600
 ·
  by_cases h2:t.length ≤ 600
  ·
   have h1':¬ (600:Int) < (s.length:Int):=by omega
   have h2':¬ (600:Int) < (t.length:Int):=by omega
   obtain ⟨a1,H1⟩:∃ a,(pF s).2.1 = a:=⟨_,rfl⟩
   obtain ⟨e1,H2⟩:∃ a,(pF s).2.2 = a:=⟨_,rfl⟩
   obtain ⟨a2,H3⟩:∃ a,(pF (s ++ 10 :: t)).2.1 = a:=⟨_,rfl⟩
   obtain ⟨e2,H4⟩:∃ a,(pF (s ++ 10 :: t)).2.2 = a:=⟨_,rfl⟩
   have hp1:=fun W=>pz_any s a1 e1 W (by omega) (Prod.ext H1 H2)
   have hp2:=fun W=>pz_any (s ++ 10 :: t) a2 e2 W (by simp;omega) (Prod.ext H3 H4)
   have hc:(e1 = 0 ∧ e2 = 0) ∨ (e1 = 0 ∧ e2 ≠ 0 ∧ (s.length:Int) < a2) ∨ (e1 ≠ 0 ∧ e2 = e1 ∧ a2 = a1):=by
    obtain ⟨k1,k2⟩:=last_plain s t h1 h2
    rw [H2,H3,H4] at k1
    rw [H2] at k2
    by_cases z:e1 = 0
    ·
     rcases k1 z with k | k
     ·
      exact Or.inl ⟨z,k⟩
     by_cases y:e2 = 0
     ·
      exact Or.inl ⟨z,y⟩
     exact Or.inr (Or.inl ⟨z,y,k⟩)
    have:=k2 z
    exact Or.inr (Or.inr ⟨z,by rw [← H4,this,H2],by rw [← H3,this,H1]⟩)
   clear H1 H2 H3 H4
   go_enter Tryz.func10,Tryz.ntmps10
   go_wp2_with fail
   refine hkn.mono ?_
   rintro e w1 ⟨rfl,b1⟩
   clear hkn
   go_wp2_with fail
   refine (hp1 _ (HE.out.later b1) (HT.out.later b1)).mono ?_
   rintro e w2 ⟨c1,rfl,r1,s1⟩
   go_wp2_with (first | (refine zad rfl 39 _ _ rfl w2.heap.size c1 rfl rfl _ 39 (zac w2 (.cells #[.slice none 0 0,.slice none 0 0] 39)) 2 rz39 rfl r1 ?_;intro w3 pw3 ow3 zw3;have dw3:=((Off.of (bal (Below.refl w2.heap.size w2) (.cells #[.slice none 0 0,.slice none 0 0] 39)) []).trans ow3 (by simp)).below (by simp)) | (refine zbm rfl 9 9 _ _ rfl _ _ rfl rfl (by simp;omega) ?_))
   have B1:=Below.chain (Below.chain b1 s1) dw3
   clear hp1 pw3 ow3 zw3
   refine (hp2 _ (HE.out.later B1) (HT.out.later B1)).mono ?_
   rintro e w4 ⟨c2,rfl,r2,s2⟩
   clear hp2
   rcases hc with ⟨rfl,rfl⟩ | ⟨rfl,hn,hl⟩ | ⟨hn,rfl,rfl⟩
   ·
    go_wp2_with (first | go_skip | go_guarded | (refine zad rfl 39 _ _ rfl w4.heap.size c2 rfl rfl _ 39 (zac w4 (.cells #[.slice none 0 0,.slice none 0 0] 39)) 2 rz39 rfl r2 ?_;intro w5 pw5 ow5 zw5;have dw5:=((Off.of (bal (Below.refl w4.heap.size w4) (.cells #[.slice none 0 0,.slice none 0 0] 39)) []).trans ow5 (by simp)).below (by simp)))
    go_ret
    exact ⟨by simp,Below.chain (Below.chain B1 s2) dw5⟩
   ·
    go_wp2_with (first | go_skip | go_guarded | (refine zad rfl 39 _ _ rfl w4.heap.size c2 rfl rfl _ 39 (zac w4 (.cells #[.slice none 0 0,.slice none 0 0] 39)) 2 rz39 rfl r2 ?_;intro w5 pw5 ow5 zw5;have dw5:=((Off.of (bal (Below.refl w4.heap.size w4) (.cells #[.slice none 0 0,.slice none 0 0] 39)) []).trans ow5 (by simp)).below (by simp)))
    go_ret
    exact ⟨by simp,Below.chain (Below.chain B1 s2) dw5⟩
   go_wp2_with (first | go_skip | go_guarded | (refine zad rfl 39 _ _ rfl w4.heap.size c2 rfl rfl _ 39 (zac w4 (.cells #[.slice none 0 0,.slice none 0 0] 39)) 2 rz39 rfl r2 ?_;intro w5 pw5 ow5 zw5;have dw5:=((Off.of (bal (Below.refl w4.heap.size w4) (.cells #[.slice none 0 0,.slice none 0 0] 39)) []).trans ow5 (by simp)).below (by simp)))
   go_ret
   exact ⟨by simp,Below.chain (Below.chain B1 s2) dw5⟩
  have h1':¬ (600:Int) < (s.length:Int):=by omega
  have h2':(600:Int) < (t.length:Int):=by omega
  go_enter Tryz.func10,Tryz.ntmps10
  go_wp2_with fail
  refine hkn.mono ?_
  rintro e w1 ⟨rfl,b1⟩
  clear hkn
  go_wp2_with fail
  go_ret
  exact ⟨by simp,b1⟩
 have h1':(600:Int) < (s.length:Int):=by omega
 go_enter Tryz.func10,Tryz.ntmps10
 go_wp2_with fail
 refine hkn.mono ?_
 rintro e w1 ⟨rfl,b1⟩
 clear hkn
 go_wp2_with fail
 go_ret
 exact ⟨by simp,b1⟩
theorem last_row (s t:Str) (w:World) (_h1:s.length ≤ 9223372036854775807) (_h2:t.length ≤ 9223372036854775807) (he:Ev w ∧ Et w):Calls Tryz.prog 10 #[tx s,tx t] w fun e w'=>e = .returned (.bool true) ∧ Below w.heap.size w w':=last_any s t w he.1 he.2
end Go.Proofs.YtjlaihekocjggaaGreatDoor
