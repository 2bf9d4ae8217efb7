/- Texts that the others lean on. -/
import Derived.Test.YtjlaihekocjggaaGreatDoorKRHd
import Derived.Test.YtjlaihekocjggaaGreatDoorKRApp
set_option maxHeartbeats 16000000
namespace Go.Proofs.YtjlaihekocjggaaGreatDoor
open Go.RowKit
abbrev hdV (o:Option (Str × Int)):Str × Int:=o.getD ([],0)
theorem hd_lens (l:Str):(hdN l).length ≤ l.length ∧ (hdT l).length ≤ l.length:=by
 have h:=Lb.cut_parts (Lib.trimPrefix l gW) 32 [101,118,101,114,121,32]
 have h2:=Lib.trimPrefix_le l gW
 exact ⟨Nat.le_trans h.1 h2,Nat.le_trans h.2.1 h2⟩
theorem zpb {s:Str} {v:Int} (h:Lib.atoiAll s = .ok v):-9223372036854775808 ≤ v ∧ v ≤ 9223372036854775807:=Lib.atoiAll_bounds h
theorem zot (l:Str) (w:World) (hs:l.length ≤ 900000) (he:Ev w):Calls Tryz.prog 166 #[tx l] w fun e w'=>e = .returned (.tuple #[hv (hdV (hdOf l)).1 (hdV (hdOf l)).2,.bool (hdOf l).isSome]) ∧ Below w.heap.size w w':=by
 obtain ⟨hl1,hl2⟩:=hd_lens l
 have B0:=bal (Below.refl w.heap.size w) (.cells #[.string ⟨#[]⟩,.int .i64 0] 136)
 have q0:=zac w (.cells #[.string ⟨#[]⟩,.int .i64 0] 136)
 have e0:=he.later B0
 have htr:=fun W=>Lb.trim_any l gW W
 have hcu:=fun W (h:Mx W)=>Lb.cutS_any (Lib.trimPrefix l gW) eW W (by have:=Lib.trimPrefix_le l gW;omega) h
 have hcu:∀ W,Mx W → Calls Tryz.prog 91 #[tx (Lib.trimPrefix l gW),tx eW] W fun e w'=>e = .returned (.tuple #[tx (hdN l),tx (hdT l),.bool (Lib.cut (Lib.trimPrefix l gW) eW).2.2]) ∧ Below W.heap.size W w':=hcu
 have HO:Hid (hdOf l = match Lib.atoiAll (hdT l) with | .ok v=>if isHd (hdN l) v = true then (if hdL (hdN l) v = l then some (hdN l,v) else none) else none | _=>none):=rfl
 have hya:=fun v W h=>zma (hdT l) v W (by omega) h
 have hna:=fun W h (k:Ev W)=>atoi_no (hdT l) W (by omega) h k
 generalize Lib.trimPrefix l gW = R at *
 have hih:=fun v W=>zhg (hdN l) v W (by unfold Big;omega)
 have hli:=fun v h0 h1 W (k:Fx.Tab Tryz.prog W)=>zjx (hdN l) v W (by omega) h0 h1 k
 clear he
 generalize hdN l = n at *
 generalize hdT l = t at *
 generalize (Lib.cut R eW).2.2 = cb at *
 cases ha:Lib.atoiAll t with
 | «syntax»=>
  have HN:Hid (hdOf l = none):=by show _ = _;rw [HO.out,ha]
  have hn:∀ v,Lib.atoiAll t ≠ .ok v:=fun v e=>by rw [ha] at e;cases e
  clear HO ha hya
  go_enter Tryz.func166,Tryz.ntmps166
  go_wp2_with fail
  generalize w.alloc (.cells #[.string ⟨#[]⟩,.int .i64 0] 136) = w0 at *
  refine (htr _).mono ?_
  rintro e w1 ⟨rfl,rfl⟩
  go_wp2_with fail
  refine (hcu _ e0.mx).mono ?_
  rintro e w1 ⟨rfl,b1⟩
  have q1:=zab b1 q0
  have e1:=e0.later b1
  go_wp2_with fail
  refine (hna _ hn e1).mono ?_
  rintro e w2 ⟨x,ty,a,rfl,b2⟩
  have q2:=zab b2 q1
  have B2:=Below.chain (Below.chain B0 b1) b2
  go_wp2_with (first | (refine zad rfl 136 _ _ rfl w2.heap.size #[tx n,.int .i64 x] rfl rfl _ 136 (zac w2 (.cells #[.string ⟨#[]⟩,.int .i64 0] 136)) 2 zcp rfl ⟨rfl,rfl⟩ ?_;intro w3 p3 o3 z3;have d0:=(zaa p3 0).trans rfl;have d1:=(zaa p3 1).trans rfl;have q3:=o3.heap (zat q2 (.cells #[.string ⟨#[]⟩,.int .i64 0] 136)) (by have:=zah q2;simp;omega);have b23:=((Off.of (bal (Below.refl w2.heap.size w2) (.cells #[.string ⟨#[]⟩,.int .i64 0] 136)) []).trans o3 (by simp)).below (by simp);have B3:=((Off.of (Below.chain B2 (bal (Below.refl w2.heap.size w2) (.cells #[.string ⟨#[]⟩,.int .i64 0] 136))) []).trans o3 (by have:=B2.size;simp;omega)).below (by simp)) | (refine zad rfl 136 _ _ rfl w.heap.size #[.string ⟨#[]⟩,.int .i64 0] rfl rfl _ 136 q3 2 zcp rfl ⟨rfl,rfl⟩ ?_;intro w9 q9 o9 z9))
  exact bodyPost_ret (zai Tryz.results166 _ _ w.heap.size 136 #[.string ⟨#[]⟩,.int .i64 0] _ rfl q9 Tryz.underlying136 rfl 2 zcp rfl) rfl ⟨by rw [HN.out];rfl,((Off.of B3 []).trans o9 (by simp)).below (by simp)⟩
 | range=>
  have HN:Hid (hdOf l = none):=by show _ = _;rw [HO.out,ha]
  have hn:∀ v,Lib.atoiAll t ≠ .ok v:=fun v e=>by rw [ha] at e;cases e
  clear HO ha hya
  go_enter Tryz.func166,Tryz.ntmps166
  go_wp2_with fail
  generalize w.alloc (.cells #[.string ⟨#[]⟩,.int .i64 0] 136) = w0 at *
  refine (htr _).mono ?_
  rintro e w1 ⟨rfl,rfl⟩
  go_wp2_with fail
  refine (hcu _ e0.mx).mono ?_
  rintro e w1 ⟨rfl,b1⟩
  have q1:=zab b1 q0
  have e1:=e0.later b1
  go_wp2_with fail
  refine (hna _ hn e1).mono ?_
  rintro e w2 ⟨x,ty,a,rfl,b2⟩
  have q2:=zab b2 q1
  have B2:=Below.chain (Below.chain B0 b1) b2
  go_wp2_with (first | (refine zad rfl 136 _ _ rfl w2.heap.size #[tx n,.int .i64 x] rfl rfl _ 136 (zac w2 (.cells #[.string ⟨#[]⟩,.int .i64 0] 136)) 2 zcp rfl ⟨rfl,rfl⟩ ?_;intro w3 p3 o3 z3;have d0:=(zaa p3 0).trans rfl;have d1:=(zaa p3 1).trans rfl;have q3:=o3.heap (zat q2 (.cells #[.string ⟨#[]⟩,.int .i64 0] 136)) (by have:=zah q2;simp;omega);have b23:=((Off.of (bal (Below.refl w2.heap.size w2) (.cells #[.string ⟨#[]⟩,.int .i64 0] 136)) []).trans o3 (by simp)).below (by simp);have B3:=((Off.of (Below.chain B2 (bal (Below.refl w2.heap.size w2) (.cells #[.string ⟨#[]⟩,.int .i64 0] 136))) []).trans o3 (by have:=B2.size;simp;omega)).below (by simp)) | (refine zad rfl 136 _ _ rfl w.heap.size #[.string ⟨#[]⟩,.int .i64 0] rfl rfl _ 136 q3 2 zcp rfl ⟨rfl,rfl⟩ ?_;intro w9 q9 o9 z9))
  exact bodyPost_ret (zai Tryz.results166 _ _ w.heap.size 136 #[.string ⟨#[]⟩,.int .i64 0] _ rfl q9 Tryz.underlying136 rfl 2 zcp rfl) rfl ⟨by rw [HN.out];rfl,((Off.of B3 []).trans o9 (by simp)).below (by simp)⟩
 | ok v=>
  have hr:=zpb ha
  have HO2:Hid (hdOf l = if isHd n v = true then (if hdL n v = l then some (n,v) else none) else none):=by show _ = _;rw [HO.out,ha]
  have hih:=fun W=>hih v W
  have hli:=fun W k=>hli v hr.1 hr.2 W k
  clear HO hna
  generalize isHd n v = ih at *
  cases ih with
  | false=>
   have HN:Hid (hdOf l = none):=by show _ = _;rw [HO2.out];rfl
   clear HO2
   go_enter Tryz.func166,Tryz.ntmps166
   go_wp2_with fail
   generalize w.alloc (.cells #[.string ⟨#[]⟩,.int .i64 0] 136) = w0 at *
   refine (htr _).mono ?_
   rintro e w1 ⟨rfl,rfl⟩
   go_wp2_with fail
   refine (hcu _ e0.mx).mono ?_
   rintro e w1 ⟨rfl,b1⟩
   have q1:=zab b1 q0
   have e1:=e0.later b1
   go_wp2_with fail
   refine (hya _ _ ha).mono ?_
   rintro e w2 ⟨rfl,b2⟩
   have q2:=zab b2 q1
   have e2:=e1.later b2
   have B2:=Below.chain (Below.chain B0 b1) b2
   clear ha hya
   go_wp2_with (first | (refine zad rfl 136 _ _ rfl w2.heap.size #[tx n,.int .i64 v] rfl rfl _ 136 (zac w2 (.cells #[.string ⟨#[]⟩,.int .i64 0] 136)) 2 zcp rfl ⟨rfl,rfl⟩ ?_;intro w3 p3 o3 z3;have d0:=(zaa p3 0).trans rfl;have d1:=(zaa p3 1).trans rfl;have q3:=o3.heap (zat q2 (.cells #[.string ⟨#[]⟩,.int .i64 0] 136)) (by have:=zah q2;simp;omega);have b23:=((Off.of (bal (Below.refl w2.heap.size w2) (.cells #[.string ⟨#[]⟩,.int .i64 0] 136)) []).trans o3 (by simp)).below (by simp);have B3:=((Off.of (Below.chain B2 (bal (Below.refl w2.heap.size w2) (.cells #[.string ⟨#[]⟩,.int .i64 0] 136))) []).trans o3 (by have:=B2.size;simp;omega)).below (by simp)) | (refine zad rfl 136 _ _ rfl w.heap.size #[.string ⟨#[]⟩,.int .i64 0] rfl rfl _ 136 q3 2 zcp rfl ⟨rfl,rfl⟩ ?_;intro w9 q9 o9 z9))
   refine (hih _).mono ?_
   rintro e w4 ⟨rfl,b4⟩
   have q4:=zab b4 q3
   have B4:=Below.chain B3 b4
   go_wp2_with (first | (refine zad rfl 136 _ _ rfl w.heap.size #[.string ⟨#[]⟩,.int .i64 0] rfl rfl _ 136 q4 2 zcp rfl ⟨rfl,rfl⟩ ?_;intro w9 q9 o9 z9))
   exact bodyPost_ret (zai Tryz.results166 _ _ w.heap.size 136 #[.string ⟨#[]⟩,.int .i64 0] _ rfl q9 Tryz.underlying136 rfl 2 zcp rfl) rfl ⟨by rw [HN.out];rfl,((Off.of B4 []).trans o9 (by simp)).below (by simp)⟩
  | true=>
   generalize hdL n v = ln at *
   by_cases hc:ln = l
   ·
    have HN:Hid (hdOf l = some (n,v)):=by show _ = _;rw [HO2.out,hc];simp
    have hb1:(ln != l) = false:=by rw [bne_eq_false_iff_eq];exact hc
    have hb2:(ln == l) = true:=beq_iff_eq.2 hc
    clear HO2 hc
    go_enter Tryz.func166,Tryz.ntmps166
    go_wp2_with fail
    generalize w.alloc (.cells #[.string ⟨#[]⟩,.int .i64 0] 136) = w0 at *
    refine (htr _).mono ?_
    rintro e w1 ⟨rfl,rfl⟩
    go_wp2_with fail
    refine (hcu _ e0.mx).mono ?_
    rintro e w1 ⟨rfl,b1⟩
    have q1:=zab b1 q0
    have e1:=e0.later b1
    go_wp2_with fail
    refine (hya _ _ ha).mono ?_
    rintro e w2 ⟨rfl,b2⟩
    have q2:=zab b2 q1
    have e2:=e1.later b2
    have B2:=Below.chain (Below.chain B0 b1) b2
    clear ha hya
    go_wp2_with (refine zad rfl 136 _ _ rfl w2.heap.size #[tx n,.int .i64 v] rfl rfl _ 136 (zac w2 (.cells #[.string ⟨#[]⟩,.int .i64 0] 136)) 2 zcp rfl ⟨rfl,rfl⟩ ?_;intro w3 p3 o3 z3;have d0:=(zaa p3 0).trans rfl;have d1:=(zaa p3 1).trans rfl;have q3:=o3.heap (zat q2 (.cells #[.string ⟨#[]⟩,.int .i64 0] 136)) (by have:=zah q2;simp;omega);have b23:=((Off.of (bal (Below.refl w2.heap.size w2) (.cells #[.string ⟨#[]⟩,.int .i64 0] 136)) []).trans o3 (by simp)).below (by simp);have B3:=((Off.of (Below.chain B2 (bal (Below.refl w2.heap.size w2) (.cells #[.string ⟨#[]⟩,.int .i64 0] 136))) []).trans o3 (by have:=B2.size;simp;omega)).below (by simp))
    refine (hih _).mono ?_
    rintro e w4 ⟨rfl,b4⟩
    have q4:=zab b4 q3
    have p4:=zab b4 p3
    have B4:=Below.chain B3 b4
    have t4:=(e2.tab.later b23).later b4
    have x0:=(zaa p4 0).trans rfl
    have x1:=(zaa p4 1).trans rfl
    clear d0 d1
    go_wp2_with fail
    refine (hli _ t4).mono ?_
    rintro e w5 ⟨rfl,b5⟩
    have q5:=zab b5 q4
    have p5:=zab b5 p4
    have B5:=Below.chain B4 b5
    go_wp2_with (first | (refine zad rfl 136 _ _ rfl w.heap.size #[tx n,.int .i64 v] rfl rfl _ 136 q5 2 zcp rfl ⟨rfl,rfl⟩ ?_;intro w9 q9 o9 z9) | (refine zaj rfl 136 _ rfl w2.heap.size #[tx n,.int .i64 v] 136 rfl p5 _ Tryz.underlying136 rfl 2 zcp rfl ?_))
    exact bodyPost_ret (zai Tryz.results166 _ _ w.heap.size 136 #[tx n,.int .i64 v] _ rfl q9 Tryz.underlying136 rfl 2 zcp rfl) rfl ⟨by rw [HN.out];rfl,((Off.of B5 []).trans o9 (by simp)).below (by simp)⟩
   have HN:Hid (hdOf l = none):=by show _ = _;rw [HO2.out];simp [hc]
   have hb1:(ln != l) = true:=by rw [bne_iff_ne];exact hc
   have hb2:(ln == l) = false:=beq_eq_false_iff_ne.2 hc
   clear HO2 hc
   go_enter Tryz.func166,Tryz.ntmps166
   go_wp2_with fail
   generalize w.alloc (.cells #[.string ⟨#[]⟩,.int .i64 0] 136) = w0 at *
   refine (htr _).mono ?_
   rintro e w1 ⟨rfl,rfl⟩
   go_wp2_with fail
   refine (hcu _ e0.mx).mono ?_
   rintro e w1 ⟨rfl,b1⟩
   have q1:=zab b1 q0
   have e1:=e0.later b1
   go_wp2_with fail
   refine (hya _ _ ha).mono ?_
   rintro e w2 ⟨rfl,b2⟩
   have q2:=zab b2 q1
   have e2:=e1.later b2
   have B2:=Below.chain (Below.chain B0 b1) b2
   clear ha hya
   go_wp2_with (refine zad rfl 136 _ _ rfl w2.heap.size #[tx n,.int .i64 v] rfl rfl _ 136 (zac w2 (.cells #[.string ⟨#[]⟩,.int .i64 0] 136)) 2 zcp rfl ⟨rfl,rfl⟩ ?_;intro w3 p3 o3 z3;have d0:=(zaa p3 0).trans rfl;have d1:=(zaa p3 1).trans rfl;have q3:=o3.heap (zat q2 (.cells #[.string ⟨#[]⟩,.int .i64 0] 136)) (by have:=zah q2;simp;omega);have b23:=((Off.of (bal (Below.refl w2.heap.size w2) (.cells #[.string ⟨#[]⟩,.int .i64 0] 136)) []).trans o3 (by simp)).below (by simp);have B3:=((Off.of (Below.chain B2 (bal (Below.refl w2.heap.size w2) (.cells #[.string ⟨#[]⟩,.int .i64 0] 136))) []).trans o3 (by have:=B2.size;simp;omega)).below (by simp))
   refine (hih _).mono ?_
   rintro e w4 ⟨rfl,b4⟩
   have q4:=zab b4 q3
   have p4:=zab b4 p3
   have B4:=Below.chain B3 b4
   have t4:=(e2.tab.later b23).later b4
   have x0:=(zaa p4 0).trans rfl
   have x1:=(zaa p4 1).trans rfl
   clear d0 d1
   go_wp2_with fail
   refine (hli _ t4).mono ?_
   rintro e w5 ⟨rfl,b5⟩
   have q5:=zab b5 q4
   have B5:=Below.chain B4 b5
   go_wp2_with (refine zad rfl 136 _ _ rfl w.heap.size #[.string ⟨#[]⟩,.int .i64 0] rfl rfl _ 136 q5 2 zcp rfl ⟨rfl,rfl⟩ ?_;intro w9 q9 o9 z9)
   exact bodyPost_ret (zai Tryz.results166 _ _ w.heap.size 136 #[.string ⟨#[]⟩,.int .i64 0] _ rfl q9 Tryz.underlying136 rfl 2 zcp rfl) rfl ⟨by rw [HN.out];rfl,((Off.of B5 []).trans o9 (by simp)).below (by simp)⟩
end Go.Proofs.YtjlaihekocjggaaGreatDoor
