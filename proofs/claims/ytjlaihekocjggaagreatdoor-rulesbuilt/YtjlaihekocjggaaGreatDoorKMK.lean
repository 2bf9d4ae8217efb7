/- Texts that the others lean on. -/
import Derived.Test.YtjlaihekocjggaaGreatDoorKMI
set_option maxHeartbeats 16000000
namespace Go.Proofs.YtjlaihekocjggaaGreatDoor
open Go.RowKit
def fK (k:Int) (nk:Nat) (o:Bool) (v:Int) (s:Str) (m:List Mt) (r:Int) (b1 b2 b3 b4:Bool) (ns:List Str):Bool:=
 if k = 1 then decide (nk = 0) && Fx.fIs o v && !o && decide (0 ≤ v)
 else if k = 2 then decide (nk = 0) && decide (m.length ≤ 8) && m.all fMat && fRange r
 else if k = 3 then decide (nk = 1) && fFun s
 else if k = 4 then decide (nk = 1) && isAggB s && fGrp b1 b2 ns
 else if k = 5 then decide (nk = 2) && (lv s != 0) && fGrp b3 b4 ns
 else if k = 6 then decide (nk = 1)
 else false
theorem kind_row {P:Nat → Prop} {w:World} (k p:Int) (o:Bool) (v:Int) (s:Str) (am an ak:Option Addr) (nm cm nn cn nk ck:Nat) (r:Int) (b1 b2 b3 b4:Bool) (m:List Mt) (ns:List Str)
  (hm:SlP P w (.slice am nm cm) m.length (cellsM m)) (hn:SlP P w (.slice an nn cn) ns.length (ns.map tx)) (hs:Big s) (hbm:∀ x ∈ m,Big x.name) (hbn:∀ x ∈ ns,Big x) (hl:m.length ≤ 9223372036854775807) (hl':ns.length ≤ 9223372036854775807) (hk0:nk ≤ 9223372036854775807) :
  Calls Tryz.prog 76 #[.agg (exA k p o v s (.slice am nm cm) r b1 b2 b3 b4 (.slice an nn cn) (.slice ak nk ck))] w fun e w'=>e = .returned (.bool (fK k nk o v s m r b1 b2 b3 b4 ns)) ∧ Below w.heap.size w w':=by
 have em:=hm.mats.1
 have en:=hn.strs.1
 have ec:=hn.strs.2.1
 have hM:=fun W (hW2:Below w.heap.size w W)=>holdM_any (SlP.later hm hW2) hbm (by omega)
 have hG:=fun p q W (hW2:Below w.heap.size w W)=>zlp p q (SlP.later hn hW2).ss hbn (by omega) ec
 have hI:=fun W=>Fx.is_any o v W
 have hR:=fun W=>zll r W
 have hF:=fun W=>isFun_any s W hs
 have hA:=fun W=>zgc s W
 have hL:=fun W=>lv_any s W
 rw [← em] at hl
 have HM:Hid (nm = m.length):=em
 clear hm hn hbm hbn hs hl' en ec em
 by_cases h1:k = 1
 ·
  subst k
  rw [show fK 1 nk o v s m r b1 b2 b3 b4 ns = (decide (nk = 0) && Fx.fIs o v && !o && decide (0 ≤ v)) from rfl]
  by_cases hk:nk = 0
  ·
   subst hk
   cases hc1:Fx.fIs o v with
   | false=>
    simp only [hc1] at hI
    have qa:=zac w (.cells (exA 1 p o v s (.slice am nm cm) r b1 b2 b3 b4 (.slice an nn cn) (.slice ak 0 ck)) 28)
    have B1:=bal (Below.refl w.heap.size w) (.cells (exA 1 p o v s (.slice am nm cm) r b1 b2 b3 b4 (.slice an nn cn) (.slice ak 0 ck)) 28)
    go_enter Tryz.func76,Tryz.ntmps76
    have x0:=(zaa qa 0).trans rfl
    have x1:=(zaa qa 1).trans rfl
    have x2:=(zaa qa 2).trans rfl
    have x3:=(zaa qa 3).trans rfl
    have x4:=(zaa qa 4).trans rfl
    have x5:=(zaa qa 5).trans rfl
    have x6:=(zaa qa 6).trans rfl
    have x7:=(zaa qa 7).trans rfl
    have x8:=(zaa qa 8).trans rfl
    have x9:=(zaa qa 9).trans rfl
    have x10:=(zaa qa 10).trans rfl
    have x11:=(zaa qa 11).trans rfl
    have x12:=(zaa qa 12).trans rfl
    go_wp2_with (first | ((first | (go_at_call 127;refine (hI _).mono ?_) | (go_at_call 128;refine (hM _ B1).mono ?_));rintro e w1 ⟨rfl,b1x⟩;have B3:=B1.trans (b1x.mono B1.size);have qa1:=zab b1x qa;have u2:=(zaa qa1 2).trans rfl;have u3:=(zaa qa1 3).trans rfl;have u6:=(zaa qa1 6).trans rfl) | ((first | (go_at_call 130;refine (hR _).mono ?_) | (go_at_call 131;refine (hF _).mono ?_) | (go_at_call 132;refine (hA _).mono ?_) | (go_at_call 133;refine (hG _ B1).mono ?_) | (go_at_call 134;refine (hL _).mono ?_));rintro e w' ⟨rfl,rfl⟩))
    go_ret
    exact ⟨by simp <;> omega,B3⟩
   | true=>
    simp only [hc1] at hI
    cases o with
    | true=>
     have qa:=zac w (.cells (exA 1 p true v s (.slice am nm cm) r b1 b2 b3 b4 (.slice an nn cn) (.slice ak 0 ck)) 28)
     have B1:=bal (Below.refl w.heap.size w) (.cells (exA 1 p true v s (.slice am nm cm) r b1 b2 b3 b4 (.slice an nn cn) (.slice ak 0 ck)) 28)
     go_enter Tryz.func76,Tryz.ntmps76
     have x0:=(zaa qa 0).trans rfl
     have x1:=(zaa qa 1).trans rfl
     have x2:=(zaa qa 2).trans rfl
     have x3:=(zaa qa 3).trans rfl
     have x4:=(zaa qa 4).trans rfl
     have x5:=(zaa qa 5).trans rfl
     have x6:=(zaa qa 6).trans rfl
     have x7:=(zaa qa 7).trans rfl
     have x8:=(zaa qa 8).trans rfl
     have x9:=(zaa qa 9).trans rfl
     have x10:=(zaa qa 10).trans rfl
     have x11:=(zaa qa 11).trans rfl
     have x12:=(zaa qa 12).trans rfl
     go_wp2_with (first | ((first | (go_at_call 127;refine (hI _).mono ?_) | (go_at_call 128;refine (hM _ B1).mono ?_));rintro e w1 ⟨rfl,b1x⟩;have B3:=B1.trans (b1x.mono B1.size);have qa1:=zab b1x qa;have u2:=(zaa qa1 2).trans rfl;have u3:=(zaa qa1 3).trans rfl;have u6:=(zaa qa1 6).trans rfl) | ((first | (go_at_call 130;refine (hR _).mono ?_) | (go_at_call 131;refine (hF _).mono ?_) | (go_at_call 132;refine (hA _).mono ?_) | (go_at_call 133;refine (hG _ B1).mono ?_) | (go_at_call 134;refine (hL _).mono ?_));rintro e w' ⟨rfl,rfl⟩))
     go_ret
     exact ⟨by simp <;> omega,B3⟩
    | false=>
     by_cases hle:0 ≤ v
     ·
      have tle:0 ≤ v:=by omega
      rw [decide_eq_true (show 0 ≤ v from hle)]
      have qa:=zac w (.cells (exA 1 p false v s (.slice am nm cm) r b1 b2 b3 b4 (.slice an nn cn) (.slice ak 0 ck)) 28)
      have B1:=bal (Below.refl w.heap.size w) (.cells (exA 1 p false v s (.slice am nm cm) r b1 b2 b3 b4 (.slice an nn cn) (.slice ak 0 ck)) 28)
      go_enter Tryz.func76,Tryz.ntmps76
      have x0:=(zaa qa 0).trans rfl
      have x1:=(zaa qa 1).trans rfl
      have x2:=(zaa qa 2).trans rfl
      have x3:=(zaa qa 3).trans rfl
      have x4:=(zaa qa 4).trans rfl
      have x5:=(zaa qa 5).trans rfl
      have x6:=(zaa qa 6).trans rfl
      have x7:=(zaa qa 7).trans rfl
      have x8:=(zaa qa 8).trans rfl
      have x9:=(zaa qa 9).trans rfl
      have x10:=(zaa qa 10).trans rfl
      have x11:=(zaa qa 11).trans rfl
      have x12:=(zaa qa 12).trans rfl
      go_wp2_with (first | ((first | (go_at_call 127;refine (hI _).mono ?_) | (go_at_call 128;refine (hM _ B1).mono ?_));rintro e w1 ⟨rfl,b1x⟩;have B3:=B1.trans (b1x.mono B1.size);have qa1:=zab b1x qa;have u2:=(zaa qa1 2).trans rfl;have u3:=(zaa qa1 3).trans rfl;have u6:=(zaa qa1 6).trans rfl) | ((first | (go_at_call 130;refine (hR _).mono ?_) | (go_at_call 131;refine (hF _).mono ?_) | (go_at_call 132;refine (hA _).mono ?_) | (go_at_call 133;refine (hG _ B1).mono ?_) | (go_at_call 134;refine (hL _).mono ?_));rintro e w' ⟨rfl,rfl⟩))
      go_ret
      exact ⟨by simp <;> omega,B3⟩
     have tle:¬ (0 ≤ v):=by omega
     rw [decide_eq_false (show ¬ (0 ≤ v) from hle)]
     have qa:=zac w (.cells (exA 1 p false v s (.slice am nm cm) r b1 b2 b3 b4 (.slice an nn cn) (.slice ak 0 ck)) 28)
     have B1:=bal (Below.refl w.heap.size w) (.cells (exA 1 p false v s (.slice am nm cm) r b1 b2 b3 b4 (.slice an nn cn) (.slice ak 0 ck)) 28)
     go_enter Tryz.func76,Tryz.ntmps76
     have x0:=(zaa qa 0).trans rfl
     have x1:=(zaa qa 1).trans rfl
     have x2:=(zaa qa 2).trans rfl
     have x3:=(zaa qa 3).trans rfl
     have x4:=(zaa qa 4).trans rfl
     have x5:=(zaa qa 5).trans rfl
     have x6:=(zaa qa 6).trans rfl
     have x7:=(zaa qa 7).trans rfl
     have x8:=(zaa qa 8).trans rfl
     have x9:=(zaa qa 9).trans rfl
     have x10:=(zaa qa 10).trans rfl
     have x11:=(zaa qa 11).trans rfl
     have x12:=(zaa qa 12).trans rfl
     go_wp2_with (first | ((first | (go_at_call 127;refine (hI _).mono ?_) | (go_at_call 128;refine (hM _ B1).mono ?_));rintro e w1 ⟨rfl,b1x⟩;have B3:=B1.trans (b1x.mono B1.size);have qa1:=zab b1x qa;have u2:=(zaa qa1 2).trans rfl;have u3:=(zaa qa1 3).trans rfl;have u6:=(zaa qa1 6).trans rfl) | ((first | (go_at_call 130;refine (hR _).mono ?_) | (go_at_call 131;refine (hF _).mono ?_) | (go_at_call 132;refine (hA _).mono ?_) | (go_at_call 133;refine (hG _ B1).mono ?_) | (go_at_call 134;refine (hL _).mono ?_));rintro e w' ⟨rfl,rfl⟩))
     go_ret
     exact ⟨by simp <;> omega,B3⟩
  have tk:((nk:Int) == 0) = false:=beq_eq_false_iff_ne.2 (by omega)
  rw [decide_eq_false hk]
  have qa:=zac w (.cells (exA 1 p o v s (.slice am nm cm) r b1 b2 b3 b4 (.slice an nn cn) (.slice ak nk ck)) 28)
  have B1:=bal (Below.refl w.heap.size w) (.cells (exA 1 p o v s (.slice am nm cm) r b1 b2 b3 b4 (.slice an nn cn) (.slice ak nk ck)) 28)
  go_enter Tryz.func76,Tryz.ntmps76
  have x0:=(zaa qa 0).trans rfl
  have x1:=(zaa qa 1).trans rfl
  have x2:=(zaa qa 2).trans rfl
  have x3:=(zaa qa 3).trans rfl
  have x4:=(zaa qa 4).trans rfl
  have x5:=(zaa qa 5).trans rfl
  have x6:=(zaa qa 6).trans rfl
  have x7:=(zaa qa 7).trans rfl
  have x8:=(zaa qa 8).trans rfl
  have x9:=(zaa qa 9).trans rfl
  have x10:=(zaa qa 10).trans rfl
  have x11:=(zaa qa 11).trans rfl
  have x12:=(zaa qa 12).trans rfl
  go_wp2_with (first | ((first | (go_at_call 127;refine (hI _).mono ?_) | (go_at_call 128;refine (hM _ B1).mono ?_));rintro e w1 ⟨rfl,b1x⟩;have B3:=B1.trans (b1x.mono B1.size);have qa1:=zab b1x qa;have u2:=(zaa qa1 2).trans rfl;have u3:=(zaa qa1 3).trans rfl;have u6:=(zaa qa1 6).trans rfl) | ((first | (go_at_call 130;refine (hR _).mono ?_) | (go_at_call 131;refine (hF _).mono ?_) | (go_at_call 132;refine (hA _).mono ?_) | (go_at_call 133;refine (hG _ B1).mono ?_) | (go_at_call 134;refine (hL _).mono ?_));rintro e w' ⟨rfl,rfl⟩))
  go_ret
  exact ⟨by simp <;> omega,B1⟩
 have t1:(k == 1) = false:=beq_eq_false_iff_ne.2 h1
 by_cases h2:k = 2
 ·
  subst k
  rw [show fK 2 nk o v s m r b1 b2 b3 b4 ns = (decide (nk = 0) && decide (m.length ≤ 8) && m.all fMat && fRange r) from rfl]
  by_cases hk:nk = 0
  ·
   subst hk
   by_cases hle:nm ≤ 8
   ·
    have tle:(nm:Int) ≤ 8:=by omega
    rw [decide_eq_true (show m.length ≤ 8 from (by have:=HM.out;omega))]
    cases hc1:m.all fMat with
    | false=>
     simp only [hc1] at hM
     have qa:=zac w (.cells (exA 2 p o v s (.slice am nm cm) r b1 b2 b3 b4 (.slice an nn cn) (.slice ak 0 ck)) 28)
     have B1:=bal (Below.refl w.heap.size w) (.cells (exA 2 p o v s (.slice am nm cm) r b1 b2 b3 b4 (.slice an nn cn) (.slice ak 0 ck)) 28)
     go_enter Tryz.func76,Tryz.ntmps76
     have x0:=(zaa qa 0).trans rfl
     have x1:=(zaa qa 1).trans rfl
     have x2:=(zaa qa 2).trans rfl
     have x3:=(zaa qa 3).trans rfl
     have x4:=(zaa qa 4).trans rfl
     have x5:=(zaa qa 5).trans rfl
     have x6:=(zaa qa 6).trans rfl
     have x7:=(zaa qa 7).trans rfl
     have x8:=(zaa qa 8).trans rfl
     have x9:=(zaa qa 9).trans rfl
     have x10:=(zaa qa 10).trans rfl
     have x11:=(zaa qa 11).trans rfl
     have x12:=(zaa qa 12).trans rfl
     go_wp2_with (first | ((first | (go_at_call 127;refine (hI _).mono ?_) | (go_at_call 128;refine (hM _ B1).mono ?_));rintro e w1 ⟨rfl,b1x⟩;have B3:=B1.trans (b1x.mono B1.size);have qa1:=zab b1x qa;have u2:=(zaa qa1 2).trans rfl;have u3:=(zaa qa1 3).trans rfl;have u6:=(zaa qa1 6).trans rfl) | ((first | (go_at_call 130;refine (hR _).mono ?_) | (go_at_call 131;refine (hF _).mono ?_) | (go_at_call 132;refine (hA _).mono ?_) | (go_at_call 133;refine (hG _ B1).mono ?_) | (go_at_call 134;refine (hL _).mono ?_));rintro e w' ⟨rfl,rfl⟩))
     go_ret
     exact ⟨by simp <;> omega,B3⟩
    | true=>
     simp only [hc1] at hM
     cases hc2:fRange r with
     | false=>
      simp only [hc2] at hR
      have qa:=zac w (.cells (exA 2 p o v s (.slice am nm cm) r b1 b2 b3 b4 (.slice an nn cn) (.slice ak 0 ck)) 28)
      have B1:=bal (Below.refl w.heap.size w) (.cells (exA 2 p o v s (.slice am nm cm) r b1 b2 b3 b4 (.slice an nn cn) (.slice ak 0 ck)) 28)
      go_enter Tryz.func76,Tryz.ntmps76
      have x0:=(zaa qa 0).trans rfl
      have x1:=(zaa qa 1).trans rfl
      have x2:=(zaa qa 2).trans rfl
      have x3:=(zaa qa 3).trans rfl
      have x4:=(zaa qa 4).trans rfl
      have x5:=(zaa qa 5).trans rfl
      have x6:=(zaa qa 6).trans rfl
      have x7:=(zaa qa 7).trans rfl
      have x8:=(zaa qa 8).trans rfl
      have x9:=(zaa qa 9).trans rfl
      have x10:=(zaa qa 10).trans rfl
      have x11:=(zaa qa 11).trans rfl
      have x12:=(zaa qa 12).trans rfl
      go_wp2_with (first | ((first | (go_at_call 127;refine (hI _).mono ?_) | (go_at_call 128;refine (hM _ B1).mono ?_));rintro e w1 ⟨rfl,b1x⟩;have B3:=B1.trans (b1x.mono B1.size);have qa1:=zab b1x qa;have u2:=(zaa qa1 2).trans rfl;have u3:=(zaa qa1 3).trans rfl;have u6:=(zaa qa1 6).trans rfl) | ((first | (go_at_call 130;refine (hR _).mono ?_) | (go_at_call 131;refine (hF _).mono ?_) | (go_at_call 132;refine (hA _).mono ?_) | (go_at_call 133;refine (hG _ B1).mono ?_) | (go_at_call 134;refine (hL _).mono ?_));rintro e w' ⟨rfl,rfl⟩))
      go_ret
      exact ⟨by simp <;> omega,B3⟩
     | true=>
      simp only [hc2] at hR
      have qa:=zac w (.cells (exA 2 p o v s (.slice am nm cm) r b1 b2 b3 b4 (.slice an nn cn) (.slice ak 0 ck)) 28)
      have B1:=bal (Below.refl w.heap.size w) (.cells (exA 2 p o v s (.slice am nm cm) r b1 b2 b3 b4 (.slice an nn cn) (.slice ak 0 ck)) 28)
      go_enter Tryz.func76,Tryz.ntmps76
      have x0:=(zaa qa 0).trans rfl
      have x1:=(zaa qa 1).trans rfl
      have x2:=(zaa qa 2).trans rfl
      have x3:=(zaa qa 3).trans rfl
      have x4:=(zaa qa 4).trans rfl
      have x5:=(zaa qa 5).trans rfl
      have x6:=(zaa qa 6).trans rfl
      have x7:=(zaa qa 7).trans rfl
      have x8:=(zaa qa 8).trans rfl
      have x9:=(zaa qa 9).trans rfl
      have x10:=(zaa qa 10).trans rfl
      have x11:=(zaa qa 11).trans rfl
      have x12:=(zaa qa 12).trans rfl
      go_wp2_with (first | ((first | (go_at_call 127;refine (hI _).mono ?_) | (go_at_call 128;refine (hM _ B1).mono ?_));rintro e w1 ⟨rfl,b1x⟩;have B3:=B1.trans (b1x.mono B1.size);have qa1:=zab b1x qa;have u2:=(zaa qa1 2).trans rfl;have u3:=(zaa qa1 3).trans rfl;have u6:=(zaa qa1 6).trans rfl) | ((first | (go_at_call 130;refine (hR _).mono ?_) | (go_at_call 131;refine (hF _).mono ?_) | (go_at_call 132;refine (hA _).mono ?_) | (go_at_call 133;refine (hG _ B1).mono ?_) | (go_at_call 134;refine (hL _).mono ?_));rintro e w' ⟨rfl,rfl⟩))
      go_ret
      exact ⟨by simp <;> omega,B3⟩
   have tle:¬ ((nm:Int) ≤ 8):=by omega
   rw [decide_eq_false (show ¬ (m.length ≤ 8) from (by have:=HM.out;omega))]
   have qa:=zac w (.cells (exA 2 p o v s (.slice am nm cm) r b1 b2 b3 b4 (.slice an nn cn) (.slice ak 0 ck)) 28)
   have B1:=bal (Below.refl w.heap.size w) (.cells (exA 2 p o v s (.slice am nm cm) r b1 b2 b3 b4 (.slice an nn cn) (.slice ak 0 ck)) 28)
   go_enter Tryz.func76,Tryz.ntmps76
   have x0:=(zaa qa 0).trans rfl
   have x1:=(zaa qa 1).trans rfl
   have x2:=(zaa qa 2).trans rfl
   have x3:=(zaa qa 3).trans rfl
   have x4:=(zaa qa 4).trans rfl
   have x5:=(zaa qa 5).trans rfl
   have x6:=(zaa qa 6).trans rfl
   have x7:=(zaa qa 7).trans rfl
   have x8:=(zaa qa 8).trans rfl
   have x9:=(zaa qa 9).trans rfl
   have x10:=(zaa qa 10).trans rfl
   have x11:=(zaa qa 11).trans rfl
   have x12:=(zaa qa 12).trans rfl
   go_wp2_with (first | ((first | (go_at_call 127;refine (hI _).mono ?_) | (go_at_call 128;refine (hM _ B1).mono ?_));rintro e w1 ⟨rfl,b1x⟩;have B3:=B1.trans (b1x.mono B1.size);have qa1:=zab b1x qa;have u2:=(zaa qa1 2).trans rfl;have u3:=(zaa qa1 3).trans rfl;have u6:=(zaa qa1 6).trans rfl) | ((first | (go_at_call 130;refine (hR _).mono ?_) | (go_at_call 131;refine (hF _).mono ?_) | (go_at_call 132;refine (hA _).mono ?_) | (go_at_call 133;refine (hG _ B1).mono ?_) | (go_at_call 134;refine (hL _).mono ?_));rintro e w' ⟨rfl,rfl⟩))
   go_ret
   exact ⟨by simp <;> omega,B1⟩
  have tk:((nk:Int) == 0) = false:=beq_eq_false_iff_ne.2 (by omega)
  rw [decide_eq_false hk]
  have qa:=zac w (.cells (exA 2 p o v s (.slice am nm cm) r b1 b2 b3 b4 (.slice an nn cn) (.slice ak nk ck)) 28)
  have B1:=bal (Below.refl w.heap.size w) (.cells (exA 2 p o v s (.slice am nm cm) r b1 b2 b3 b4 (.slice an nn cn) (.slice ak nk ck)) 28)
  go_enter Tryz.func76,Tryz.ntmps76
  have x0:=(zaa qa 0).trans rfl
  have x1:=(zaa qa 1).trans rfl
  have x2:=(zaa qa 2).trans rfl
  have x3:=(zaa qa 3).trans rfl
  have x4:=(zaa qa 4).trans rfl
  have x5:=(zaa qa 5).trans rfl
  have x6:=(zaa qa 6).trans rfl
  have x7:=(zaa qa 7).trans rfl
  have x8:=(zaa qa 8).trans rfl
  have x9:=(zaa qa 9).trans rfl
  have x10:=(zaa qa 10).trans rfl
  have x11:=(zaa qa 11).trans rfl
  have x12:=(zaa qa 12).trans rfl
  go_wp2_with (first | ((first | (go_at_call 127;refine (hI _).mono ?_) | (go_at_call 128;refine (hM _ B1).mono ?_));rintro e w1 ⟨rfl,b1x⟩;have B3:=B1.trans (b1x.mono B1.size);have qa1:=zab b1x qa;have u2:=(zaa qa1 2).trans rfl;have u3:=(zaa qa1 3).trans rfl;have u6:=(zaa qa1 6).trans rfl) | ((first | (go_at_call 130;refine (hR _).mono ?_) | (go_at_call 131;refine (hF _).mono ?_) | (go_at_call 132;refine (hA _).mono ?_) | (go_at_call 133;refine (hG _ B1).mono ?_) | (go_at_call 134;refine (hL _).mono ?_));rintro e w' ⟨rfl,rfl⟩))
  go_ret
  exact ⟨by simp <;> omega,B1⟩
 have t2:(k == 2) = false:=beq_eq_false_iff_ne.2 h2
 by_cases h3:k = 3
 ·
  subst k
  rw [show fK 3 nk o v s m r b1 b2 b3 b4 ns = (decide (nk = 1) && fFun s) from rfl]
  by_cases hk:nk = 1
  ·
   subst hk
   cases hc1:fFun s with
   | false=>
    simp only [hc1] at hF
    have qa:=zac w (.cells (exA 3 p o v s (.slice am nm cm) r b1 b2 b3 b4 (.slice an nn cn) (.slice ak 1 ck)) 28)
    have B1:=bal (Below.refl w.heap.size w) (.cells (exA 3 p o v s (.slice am nm cm) r b1 b2 b3 b4 (.slice an nn cn) (.slice ak 1 ck)) 28)
    go_enter Tryz.func76,Tryz.ntmps76
    have x0:=(zaa qa 0).trans rfl
    have x1:=(zaa qa 1).trans rfl
    have x2:=(zaa qa 2).trans rfl
    have x3:=(zaa qa 3).trans rfl
    have x4:=(zaa qa 4).trans rfl
    have x5:=(zaa qa 5).trans rfl
    have x6:=(zaa qa 6).trans rfl
    have x7:=(zaa qa 7).trans rfl
    have x8:=(zaa qa 8).trans rfl
    have x9:=(zaa qa 9).trans rfl
    have x10:=(zaa qa 10).trans rfl
    have x11:=(zaa qa 11).trans rfl
    have x12:=(zaa qa 12).trans rfl
    go_wp2_with (first | ((first | (go_at_call 127;refine (hI _).mono ?_) | (go_at_call 128;refine (hM _ B1).mono ?_));rintro e w1 ⟨rfl,b1x⟩;have B3:=B1.trans (b1x.mono B1.size);have qa1:=zab b1x qa;have u2:=(zaa qa1 2).trans rfl;have u3:=(zaa qa1 3).trans rfl;have u6:=(zaa qa1 6).trans rfl) | ((first | (go_at_call 130;refine (hR _).mono ?_) | (go_at_call 131;refine (hF _).mono ?_) | (go_at_call 132;refine (hA _).mono ?_) | (go_at_call 133;refine (hG _ B1).mono ?_) | (go_at_call 134;refine (hL _).mono ?_));rintro e w' ⟨rfl,rfl⟩))
    go_ret
    exact ⟨by simp <;> omega,B1⟩
   | true=>
    simp only [hc1] at hF
    have qa:=zac w (.cells (exA 3 p o v s (.slice am nm cm) r b1 b2 b3 b4 (.slice an nn cn) (.slice ak 1 ck)) 28)
    have B1:=bal (Below.refl w.heap.size w) (.cells (exA 3 p o v s (.slice am nm cm) r b1 b2 b3 b4 (.slice an nn cn) (.slice ak 1 ck)) 28)
    go_enter Tryz.func76,Tryz.ntmps76
    have x0:=(zaa qa 0).trans rfl
    have x1:=(zaa qa 1).trans rfl
    have x2:=(zaa qa 2).trans rfl
    have x3:=(zaa qa 3).trans rfl
    have x4:=(zaa qa 4).trans rfl
    have x5:=(zaa qa 5).trans rfl
    have x6:=(zaa qa 6).trans rfl
    have x7:=(zaa qa 7).trans rfl
    have x8:=(zaa qa 8).trans rfl
    have x9:=(zaa qa 9).trans rfl
    have x10:=(zaa qa 10).trans rfl
    have x11:=(zaa qa 11).trans rfl
    have x12:=(zaa qa 12).trans rfl
    go_wp2_with (first | ((first | (go_at_call 127;refine (hI _).mono ?_) | (go_at_call 128;refine (hM _ B1).mono ?_));rintro e w1 ⟨rfl,b1x⟩;have B3:=B1.trans (b1x.mono B1.size);have qa1:=zab b1x qa;have u2:=(zaa qa1 2).trans rfl;have u3:=(zaa qa1 3).trans rfl;have u6:=(zaa qa1 6).trans rfl) | ((first | (go_at_call 130;refine (hR _).mono ?_) | (go_at_call 131;refine (hF _).mono ?_) | (go_at_call 132;refine (hA _).mono ?_) | (go_at_call 133;refine (hG _ B1).mono ?_) | (go_at_call 134;refine (hL _).mono ?_));rintro e w' ⟨rfl,rfl⟩))
    go_ret
    exact ⟨by simp <;> omega,B1⟩
  have tk:((nk:Int) == 1) = false:=beq_eq_false_iff_ne.2 (by omega)
  rw [decide_eq_false hk]
  have qa:=zac w (.cells (exA 3 p o v s (.slice am nm cm) r b1 b2 b3 b4 (.slice an nn cn) (.slice ak nk ck)) 28)
  have B1:=bal (Below.refl w.heap.size w) (.cells (exA 3 p o v s (.slice am nm cm) r b1 b2 b3 b4 (.slice an nn cn) (.slice ak nk ck)) 28)
  go_enter Tryz.func76,Tryz.ntmps76
  have x0:=(zaa qa 0).trans rfl
  have x1:=(zaa qa 1).trans rfl
  have x2:=(zaa qa 2).trans rfl
  have x3:=(zaa qa 3).trans rfl
  have x4:=(zaa qa 4).trans rfl
  have x5:=(zaa qa 5).trans rfl
  have x6:=(zaa qa 6).trans rfl
  have x7:=(zaa qa 7).trans rfl
  have x8:=(zaa qa 8).trans rfl
  have x9:=(zaa qa 9).trans rfl
  have x10:=(zaa qa 10).trans rfl
  have x11:=(zaa qa 11).trans rfl
  have x12:=(zaa qa 12).trans rfl
  go_wp2_with (first | ((first | (go_at_call 127;refine (hI _).mono ?_) | (go_at_call 128;refine (hM _ B1).mono ?_));rintro e w1 ⟨rfl,b1x⟩;have B3:=B1.trans (b1x.mono B1.size);have qa1:=zab b1x qa;have u2:=(zaa qa1 2).trans rfl;have u3:=(zaa qa1 3).trans rfl;have u6:=(zaa qa1 6).trans rfl) | ((first | (go_at_call 130;refine (hR _).mono ?_) | (go_at_call 131;refine (hF _).mono ?_) | (go_at_call 132;refine (hA _).mono ?_) | (go_at_call 133;refine (hG _ B1).mono ?_) | (go_at_call 134;refine (hL _).mono ?_));rintro e w' ⟨rfl,rfl⟩))
  go_ret
  exact ⟨by simp <;> omega,B1⟩
 have t3:(k == 3) = false:=beq_eq_false_iff_ne.2 h3
 by_cases h4:k = 4
 ·
  subst k
  rw [show fK 4 nk o v s m r b1 b2 b3 b4 ns = (decide (nk = 1) && isAggB s && fGrp b1 b2 ns) from rfl]
  by_cases hk:nk = 1
  ·
   subst hk
   cases hc1:isAggB s with
   | false=>
    simp only [hc1] at hA
    have qa:=zac w (.cells (exA 4 p o v s (.slice am nm cm) r b1 b2 b3 b4 (.slice an nn cn) (.slice ak 1 ck)) 28)
    have B1:=bal (Below.refl w.heap.size w) (.cells (exA 4 p o v s (.slice am nm cm) r b1 b2 b3 b4 (.slice an nn cn) (.slice ak 1 ck)) 28)
    go_enter Tryz.func76,Tryz.ntmps76
    have x0:=(zaa qa 0).trans rfl
    have x1:=(zaa qa 1).trans rfl
    have x2:=(zaa qa 2).trans rfl
    have x3:=(zaa qa 3).trans rfl
    have x4:=(zaa qa 4).trans rfl
    have x5:=(zaa qa 5).trans rfl
    have x6:=(zaa qa 6).trans rfl
    have x7:=(zaa qa 7).trans rfl
    have x8:=(zaa qa 8).trans rfl
    have x9:=(zaa qa 9).trans rfl
    have x10:=(zaa qa 10).trans rfl
    have x11:=(zaa qa 11).trans rfl
    have x12:=(zaa qa 12).trans rfl
    go_wp2_with (first | ((first | (go_at_call 127;refine (hI _).mono ?_) | (go_at_call 128;refine (hM _ B1).mono ?_));rintro e w1 ⟨rfl,b1x⟩;have B3:=B1.trans (b1x.mono B1.size);have qa1:=zab b1x qa;have u2:=(zaa qa1 2).trans rfl;have u3:=(zaa qa1 3).trans rfl;have u6:=(zaa qa1 6).trans rfl) | ((first | (go_at_call 130;refine (hR _).mono ?_) | (go_at_call 131;refine (hF _).mono ?_) | (go_at_call 132;refine (hA _).mono ?_) | (go_at_call 133;refine (hG _ B1).mono ?_) | (go_at_call 134;refine (hL _).mono ?_));rintro e w' ⟨rfl,rfl⟩))
    go_ret
    exact ⟨by simp <;> omega,B1⟩
   | true=>
    simp only [hc1] at hA
    cases hc2:fGrp b1 b2 ns with
    | false=>
     have hG:=fun W hW=>hG b1 b2 W hW
     simp only [hc2] at hG
     have qa:=zac w (.cells (exA 4 p o v s (.slice am nm cm) r b1 b2 b3 b4 (.slice an nn cn) (.slice ak 1 ck)) 28)
     have B1:=bal (Below.refl w.heap.size w) (.cells (exA 4 p o v s (.slice am nm cm) r b1 b2 b3 b4 (.slice an nn cn) (.slice ak 1 ck)) 28)
     go_enter Tryz.func76,Tryz.ntmps76
     have x0:=(zaa qa 0).trans rfl
     have x1:=(zaa qa 1).trans rfl
     have x2:=(zaa qa 2).trans rfl
     have x3:=(zaa qa 3).trans rfl
     have x4:=(zaa qa 4).trans rfl
     have x5:=(zaa qa 5).trans rfl
     have x6:=(zaa qa 6).trans rfl
     have x7:=(zaa qa 7).trans rfl
     have x8:=(zaa qa 8).trans rfl
     have x9:=(zaa qa 9).trans rfl
     have x10:=(zaa qa 10).trans rfl
     have x11:=(zaa qa 11).trans rfl
     have x12:=(zaa qa 12).trans rfl
     go_wp2_with (first | ((first | (go_at_call 127;refine (hI _).mono ?_) | (go_at_call 128;refine (hM _ B1).mono ?_));rintro e w1 ⟨rfl,b1x⟩;have B3:=B1.trans (b1x.mono B1.size);have qa1:=zab b1x qa;have u2:=(zaa qa1 2).trans rfl;have u3:=(zaa qa1 3).trans rfl;have u6:=(zaa qa1 6).trans rfl) | ((first | (go_at_call 130;refine (hR _).mono ?_) | (go_at_call 131;refine (hF _).mono ?_) | (go_at_call 132;refine (hA _).mono ?_) | (go_at_call 133;refine (hG _ B1).mono ?_) | (go_at_call 134;refine (hL _).mono ?_));rintro e w' ⟨rfl,rfl⟩))
     go_ret
     exact ⟨by simp <;> omega,B1⟩
    | true=>
     have hG:=fun W hW=>hG b1 b2 W hW
     simp only [hc2] at hG
     have qa:=zac w (.cells (exA 4 p o v s (.slice am nm cm) r b1 b2 b3 b4 (.slice an nn cn) (.slice ak 1 ck)) 28)
     have B1:=bal (Below.refl w.heap.size w) (.cells (exA 4 p o v s (.slice am nm cm) r b1 b2 b3 b4 (.slice an nn cn) (.slice ak 1 ck)) 28)
     go_enter Tryz.func76,Tryz.ntmps76
     have x0:=(zaa qa 0).trans rfl
     have x1:=(zaa qa 1).trans rfl
     have x2:=(zaa qa 2).trans rfl
     have x3:=(zaa qa 3).trans rfl
     have x4:=(zaa qa 4).trans rfl
     have x5:=(zaa qa 5).trans rfl
     have x6:=(zaa qa 6).trans rfl
     have x7:=(zaa qa 7).trans rfl
     have x8:=(zaa qa 8).trans rfl
     have x9:=(zaa qa 9).trans rfl
     have x10:=(zaa qa 10).trans rfl
     have x11:=(zaa qa 11).trans rfl
     have x12:=(zaa qa 12).trans rfl
     go_wp2_with (first | ((first | (go_at_call 127;refine (hI _).mono ?_) | (go_at_call 128;refine (hM _ B1).mono ?_));rintro e w1 ⟨rfl,b1x⟩;have B3:=B1.trans (b1x.mono B1.size);have qa1:=zab b1x qa;have u2:=(zaa qa1 2).trans rfl;have u3:=(zaa qa1 3).trans rfl;have u6:=(zaa qa1 6).trans rfl) | ((first | (go_at_call 130;refine (hR _).mono ?_) | (go_at_call 131;refine (hF _).mono ?_) | (go_at_call 132;refine (hA _).mono ?_) | (go_at_call 133;refine (hG _ B1).mono ?_) | (go_at_call 134;refine (hL _).mono ?_));rintro e w' ⟨rfl,rfl⟩))
     go_ret
     exact ⟨by simp <;> omega,B1⟩
  have tk:((nk:Int) == 1) = false:=beq_eq_false_iff_ne.2 (by omega)
  rw [decide_eq_false hk]
  have qa:=zac w (.cells (exA 4 p o v s (.slice am nm cm) r b1 b2 b3 b4 (.slice an nn cn) (.slice ak nk ck)) 28)
  have B1:=bal (Below.refl w.heap.size w) (.cells (exA 4 p o v s (.slice am nm cm) r b1 b2 b3 b4 (.slice an nn cn) (.slice ak nk ck)) 28)
  go_enter Tryz.func76,Tryz.ntmps76
  have x0:=(zaa qa 0).trans rfl
  have x1:=(zaa qa 1).trans rfl
  have x2:=(zaa qa 2).trans rfl
  have x3:=(zaa qa 3).trans rfl
  have x4:=(zaa qa 4).trans rfl
  have x5:=(zaa qa 5).trans rfl
  have x6:=(zaa qa 6).trans rfl
  have x7:=(zaa qa 7).trans rfl
  have x8:=(zaa qa 8).trans rfl
  have x9:=(zaa qa 9).trans rfl
  have x10:=(zaa qa 10).trans rfl
  have x11:=(zaa qa 11).trans rfl
  have x12:=(zaa qa 12).trans rfl
  go_wp2_with (first | ((first | (go_at_call 127;refine (hI _).mono ?_) | (go_at_call 128;refine (hM _ B1).mono ?_));rintro e w1 ⟨rfl,b1x⟩;have B3:=B1.trans (b1x.mono B1.size);have qa1:=zab b1x qa;have u2:=(zaa qa1 2).trans rfl;have u3:=(zaa qa1 3).trans rfl;have u6:=(zaa qa1 6).trans rfl) | ((first | (go_at_call 130;refine (hR _).mono ?_) | (go_at_call 131;refine (hF _).mono ?_) | (go_at_call 132;refine (hA _).mono ?_) | (go_at_call 133;refine (hG _ B1).mono ?_) | (go_at_call 134;refine (hL _).mono ?_));rintro e w' ⟨rfl,rfl⟩))
  go_ret
  exact ⟨by simp <;> omega,B1⟩
 have t4:(k == 4) = false:=beq_eq_false_iff_ne.2 h4
 by_cases h5:k = 5
 ·
  subst k
  rw [show fK 5 nk o v s m r b1 b2 b3 b4 ns = (decide (nk = 2) && (lv s != 0) && fGrp b3 b4 ns) from rfl]
  by_cases hk:nk = 2
  ·
   subst hk
   cases hne:(lv s != 0) with
   | false=>
    have tne:(lv s == 0) = true:=by rw [bne] at hne;revert hne;cases (lv s == 0) <;> simp
    have qa:=zac w (.cells (exA 5 p o v s (.slice am nm cm) r b1 b2 b3 b4 (.slice an nn cn) (.slice ak 2 ck)) 28)
    have B1:=bal (Below.refl w.heap.size w) (.cells (exA 5 p o v s (.slice am nm cm) r b1 b2 b3 b4 (.slice an nn cn) (.slice ak 2 ck)) 28)
    go_enter Tryz.func76,Tryz.ntmps76
    have x0:=(zaa qa 0).trans rfl
    have x1:=(zaa qa 1).trans rfl
    have x2:=(zaa qa 2).trans rfl
    have x3:=(zaa qa 3).trans rfl
    have x4:=(zaa qa 4).trans rfl
    have x5:=(zaa qa 5).trans rfl
    have x6:=(zaa qa 6).trans rfl
    have x7:=(zaa qa 7).trans rfl
    have x8:=(zaa qa 8).trans rfl
    have x9:=(zaa qa 9).trans rfl
    have x10:=(zaa qa 10).trans rfl
    have x11:=(zaa qa 11).trans rfl
    have x12:=(zaa qa 12).trans rfl
    go_wp2_with (first | ((first | (go_at_call 127;refine (hI _).mono ?_) | (go_at_call 128;refine (hM _ B1).mono ?_));rintro e w1 ⟨rfl,b1x⟩;have B3:=B1.trans (b1x.mono B1.size);have qa1:=zab b1x qa;have u2:=(zaa qa1 2).trans rfl;have u3:=(zaa qa1 3).trans rfl;have u6:=(zaa qa1 6).trans rfl) | ((first | (go_at_call 130;refine (hR _).mono ?_) | (go_at_call 131;refine (hF _).mono ?_) | (go_at_call 132;refine (hA _).mono ?_) | (go_at_call 133;refine (hG _ B1).mono ?_) | (go_at_call 134;refine (hL _).mono ?_));rintro e w' ⟨rfl,rfl⟩))
    go_ret
    exact ⟨by simp <;> omega,B1⟩
   | true=>
    have tne:(lv s == 0) = false:=by rw [bne] at hne;revert hne;cases (lv s == 0) <;> simp
    cases hc2:fGrp b3 b4 ns with
    | false=>
     have hG:=fun W hW=>hG b3 b4 W hW
     simp only [hc2] at hG
     have qa:=zac w (.cells (exA 5 p o v s (.slice am nm cm) r b1 b2 b3 b4 (.slice an nn cn) (.slice ak 2 ck)) 28)
     have B1:=bal (Below.refl w.heap.size w) (.cells (exA 5 p o v s (.slice am nm cm) r b1 b2 b3 b4 (.slice an nn cn) (.slice ak 2 ck)) 28)
     go_enter Tryz.func76,Tryz.ntmps76
     have x0:=(zaa qa 0).trans rfl
     have x1:=(zaa qa 1).trans rfl
     have x2:=(zaa qa 2).trans rfl
     have x3:=(zaa qa 3).trans rfl
     have x4:=(zaa qa 4).trans rfl
     have x5:=(zaa qa 5).trans rfl
     have x6:=(zaa qa 6).trans rfl
     have x7:=(zaa qa 7).trans rfl
     have x8:=(zaa qa 8).trans rfl
     have x9:=(zaa qa 9).trans rfl
     have x10:=(zaa qa 10).trans rfl
     have x11:=(zaa qa 11).trans rfl
     have x12:=(zaa qa 12).trans rfl
     go_wp2_with (first | ((first | (go_at_call 127;refine (hI _).mono ?_) | (go_at_call 128;refine (hM _ B1).mono ?_));rintro e w1 ⟨rfl,b1x⟩;have B3:=B1.trans (b1x.mono B1.size);have qa1:=zab b1x qa;have u2:=(zaa qa1 2).trans rfl;have u3:=(zaa qa1 3).trans rfl;have u6:=(zaa qa1 6).trans rfl) | ((first | (go_at_call 130;refine (hR _).mono ?_) | (go_at_call 131;refine (hF _).mono ?_) | (go_at_call 132;refine (hA _).mono ?_) | (go_at_call 133;refine (hG _ B1).mono ?_) | (go_at_call 134;refine (hL _).mono ?_));rintro e w' ⟨rfl,rfl⟩))
     go_ret
     exact ⟨by simp <;> omega,B1⟩
    | true=>
     have hG:=fun W hW=>hG b3 b4 W hW
     simp only [hc2] at hG
     have qa:=zac w (.cells (exA 5 p o v s (.slice am nm cm) r b1 b2 b3 b4 (.slice an nn cn) (.slice ak 2 ck)) 28)
     have B1:=bal (Below.refl w.heap.size w) (.cells (exA 5 p o v s (.slice am nm cm) r b1 b2 b3 b4 (.slice an nn cn) (.slice ak 2 ck)) 28)
     go_enter Tryz.func76,Tryz.ntmps76
     have x0:=(zaa qa 0).trans rfl
     have x1:=(zaa qa 1).trans rfl
     have x2:=(zaa qa 2).trans rfl
     have x3:=(zaa qa 3).trans rfl
     have x4:=(zaa qa 4).trans rfl
     have x5:=(zaa qa 5).trans rfl
     have x6:=(zaa qa 6).trans rfl
     have x7:=(zaa qa 7).trans rfl
     have x8:=(zaa qa 8).trans rfl
     have x9:=(zaa qa 9).trans rfl
     have x10:=(zaa qa 10).trans rfl
     have x11:=(zaa qa 11).trans rfl
     have x12:=(zaa qa 12).trans rfl
     go_wp2_with (first | ((first | (go_at_call 127;refine (hI _).mono ?_) | (go_at_call 128;refine (hM _ B1).mono ?_));rintro e w1 ⟨rfl,b1x⟩;have B3:=B1.trans (b1x.mono B1.size);have qa1:=zab b1x qa;have u2:=(zaa qa1 2).trans rfl;have u3:=(zaa qa1 3).trans rfl;have u6:=(zaa qa1 6).trans rfl) | ((first | (go_at_call 130;refine (hR _).mono ?_) | (go_at_call 131;refine (hF _).mono ?_) | (go_at_call 132;refine (hA _).mono ?_) | (go_at_call 133;refine (hG _ B1).mono ?_) | (go_at_call 134;refine (hL _).mono ?_));rintro e w' ⟨rfl,rfl⟩))
     go_ret
     exact ⟨by simp <;> omega,B1⟩
  have tk:((nk:Int) == 2) = false:=beq_eq_false_iff_ne.2 (by omega)
  rw [decide_eq_false hk]
  have qa:=zac w (.cells (exA 5 p o v s (.slice am nm cm) r b1 b2 b3 b4 (.slice an nn cn) (.slice ak nk ck)) 28)
  have B1:=bal (Below.refl w.heap.size w) (.cells (exA 5 p o v s (.slice am nm cm) r b1 b2 b3 b4 (.slice an nn cn) (.slice ak nk ck)) 28)
  go_enter Tryz.func76,Tryz.ntmps76
  have x0:=(zaa qa 0).trans rfl
  have x1:=(zaa qa 1).trans rfl
  have x2:=(zaa qa 2).trans rfl
  have x3:=(zaa qa 3).trans rfl
  have x4:=(zaa qa 4).trans rfl
  have x5:=(zaa qa 5).trans rfl
  have x6:=(zaa qa 6).trans rfl
  have x7:=(zaa qa 7).trans rfl
  have x8:=(zaa qa 8).trans rfl
  have x9:=(zaa qa 9).trans rfl
  have x10:=(zaa qa 10).trans rfl
  have x11:=(zaa qa 11).trans rfl
  have x12:=(zaa qa 12).trans rfl
  go_wp2_with (first | ((first | (go_at_call 127;refine (hI _).mono ?_) | (go_at_call 128;refine (hM _ B1).mono ?_));rintro e w1 ⟨rfl,b1x⟩;have B3:=B1.trans (b1x.mono B1.size);have qa1:=zab b1x qa;have u2:=(zaa qa1 2).trans rfl;have u3:=(zaa qa1 3).trans rfl;have u6:=(zaa qa1 6).trans rfl) | ((first | (go_at_call 130;refine (hR _).mono ?_) | (go_at_call 131;refine (hF _).mono ?_) | (go_at_call 132;refine (hA _).mono ?_) | (go_at_call 133;refine (hG _ B1).mono ?_) | (go_at_call 134;refine (hL _).mono ?_));rintro e w' ⟨rfl,rfl⟩))
  go_ret
  exact ⟨by simp <;> omega,B1⟩
 have t5:(k == 5) = false:=beq_eq_false_iff_ne.2 h5
 by_cases h6:k = 6
 ·
  subst k
  rw [show fK 6 nk o v s m r b1 b2 b3 b4 ns = (decide (nk = 1)) from rfl]
  by_cases hk:nk = 1
  ·
   subst hk
   have qa:=zac w (.cells (exA 6 p o v s (.slice am nm cm) r b1 b2 b3 b4 (.slice an nn cn) (.slice ak 1 ck)) 28)
   have B1:=bal (Below.refl w.heap.size w) (.cells (exA 6 p o v s (.slice am nm cm) r b1 b2 b3 b4 (.slice an nn cn) (.slice ak 1 ck)) 28)
   go_enter Tryz.func76,Tryz.ntmps76
   have x0:=(zaa qa 0).trans rfl
   have x1:=(zaa qa 1).trans rfl
   have x2:=(zaa qa 2).trans rfl
   have x3:=(zaa qa 3).trans rfl
   have x4:=(zaa qa 4).trans rfl
   have x5:=(zaa qa 5).trans rfl
   have x6:=(zaa qa 6).trans rfl
   have x7:=(zaa qa 7).trans rfl
   have x8:=(zaa qa 8).trans rfl
   have x9:=(zaa qa 9).trans rfl
   have x10:=(zaa qa 10).trans rfl
   have x11:=(zaa qa 11).trans rfl
   have x12:=(zaa qa 12).trans rfl
   go_wp2_with (first | ((first | (go_at_call 127;refine (hI _).mono ?_) | (go_at_call 128;refine (hM _ B1).mono ?_));rintro e w1 ⟨rfl,b1x⟩;have B3:=B1.trans (b1x.mono B1.size);have qa1:=zab b1x qa;have u2:=(zaa qa1 2).trans rfl;have u3:=(zaa qa1 3).trans rfl;have u6:=(zaa qa1 6).trans rfl) | ((first | (go_at_call 130;refine (hR _).mono ?_) | (go_at_call 131;refine (hF _).mono ?_) | (go_at_call 132;refine (hA _).mono ?_) | (go_at_call 133;refine (hG _ B1).mono ?_) | (go_at_call 134;refine (hL _).mono ?_));rintro e w' ⟨rfl,rfl⟩))
   go_ret
   exact ⟨by simp <;> omega,B1⟩
  have tk:((nk:Int) == 1) = false:=beq_eq_false_iff_ne.2 (by omega)
  rw [decide_eq_false hk]
  have qa:=zac w (.cells (exA 6 p o v s (.slice am nm cm) r b1 b2 b3 b4 (.slice an nn cn) (.slice ak nk ck)) 28)
  have B1:=bal (Below.refl w.heap.size w) (.cells (exA 6 p o v s (.slice am nm cm) r b1 b2 b3 b4 (.slice an nn cn) (.slice ak nk ck)) 28)
  go_enter Tryz.func76,Tryz.ntmps76
  have x0:=(zaa qa 0).trans rfl
  have x1:=(zaa qa 1).trans rfl
  have x2:=(zaa qa 2).trans rfl
  have x3:=(zaa qa 3).trans rfl
  have x4:=(zaa qa 4).trans rfl
  have x5:=(zaa qa 5).trans rfl
  have x6:=(zaa qa 6).trans rfl
  have x7:=(zaa qa 7).trans rfl
  have x8:=(zaa qa 8).trans rfl
  have x9:=(zaa qa 9).trans rfl
  have x10:=(zaa qa 10).trans rfl
  have x11:=(zaa qa 11).trans rfl
  have x12:=(zaa qa 12).trans rfl
  go_wp2_with (first | ((first | (go_at_call 127;refine (hI _).mono ?_) | (go_at_call 128;refine (hM _ B1).mono ?_));rintro e w1 ⟨rfl,b1x⟩;have B3:=B1.trans (b1x.mono B1.size);have qa1:=zab b1x qa;have u2:=(zaa qa1 2).trans rfl;have u3:=(zaa qa1 3).trans rfl;have u6:=(zaa qa1 6).trans rfl) | ((first | (go_at_call 130;refine (hR _).mono ?_) | (go_at_call 131;refine (hF _).mono ?_) | (go_at_call 132;refine (hA _).mono ?_) | (go_at_call 133;refine (hG _ B1).mono ?_) | (go_at_call 134;refine (hL _).mono ?_));rintro e w' ⟨rfl,rfl⟩))
  go_ret
  exact ⟨by simp <;> omega,B1⟩
 have t6:(k == 6) = false:=beq_eq_false_iff_ne.2 h6
 rw [show fK k nk o v s m r b1 b2 b3 b4 ns = false by unfold fK;rw [if_neg h1,if_neg h2,if_neg h3,if_neg h4,if_neg h5,if_neg h6]]
 have qa:=zac w (.cells (exA k p o v s (.slice am nm cm) r b1 b2 b3 b4 (.slice an nn cn) (.slice ak nk ck)) 28)
 have B1:=bal (Below.refl w.heap.size w) (.cells (exA k p o v s (.slice am nm cm) r b1 b2 b3 b4 (.slice an nn cn) (.slice ak nk ck)) 28)
 go_enter Tryz.func76,Tryz.ntmps76
 have x0:=(zaa qa 0).trans rfl
 have x1:=(zaa qa 1).trans rfl
 have x2:=(zaa qa 2).trans rfl
 have x3:=(zaa qa 3).trans rfl
 have x4:=(zaa qa 4).trans rfl
 have x5:=(zaa qa 5).trans rfl
 have x6:=(zaa qa 6).trans rfl
 have x7:=(zaa qa 7).trans rfl
 have x8:=(zaa qa 8).trans rfl
 have x9:=(zaa qa 9).trans rfl
 have x10:=(zaa qa 10).trans rfl
 have x11:=(zaa qa 11).trans rfl
 have x12:=(zaa qa 12).trans rfl
 go_wp2_with (first | ((first | (go_at_call 127;refine (hI _).mono ?_) | (go_at_call 128;refine (hM _ B1).mono ?_));rintro e w1 ⟨rfl,b1x⟩;have B3:=B1.trans (b1x.mono B1.size);have qa1:=zab b1x qa;have u2:=(zaa qa1 2).trans rfl;have u3:=(zaa qa1 3).trans rfl;have u6:=(zaa qa1 6).trans rfl) | ((first | (go_at_call 130;refine (hR _).mono ?_) | (go_at_call 131;refine (hF _).mono ?_) | (go_at_call 132;refine (hA _).mono ?_) | (go_at_call 133;refine (hG _ B1).mono ?_) | (go_at_call 134;refine (hL _).mono ?_));rintro e w' ⟨rfl,rfl⟩))
 go_ret
 exact ⟨by simp <;> omega,B1⟩
end Go.Proofs.YtjlaihekocjggaaGreatDoor
