/- The law RulesBounds. -/
import Derived.Test.YtjlaihekocjggaaGreatDoorKRBdA
set_option maxHeartbeats 16000000
namespace Go.Proofs.YtjlaihekocjggaaGreatDoor
open Go.RowKit
set_option maxRecDepth 4000 in
theorem bounds_0 (n x:Int) (k:Nat) (hk:n.tmod 12 = k) (hk2:k < 12) (hx:x.tmod 3 = (0:Int)) (w:World) (he:Ev w) (het:Et w):Calls Tryz.prog 7 #[.int .u8 n,.int .u8 x] w fun e w'=>e = .returned (.bool true) ∧ Below w.heap.size w w':=by
 have hkn:=zol w he het
 have HE:Hid (Ev w):=he
 have HT:Hid (Et w):=het
 have hjx:=jx0
 have hk1:IntKind.i64.wrap ((k:Int) + 1) = (k:Int) + 1:=by rw [IntKind.wrap_i64];omega
 have hkb:(k:Int) < 12:=by omega
 clear he het
 go_enter Tryz.func7,Tryz.ntmps7
 go_wp2_with fail
 refine hkn.mono ?_
 rintro e w1 ⟨rfl,b1⟩
 clear hkn
 go_wp2_with fail
 go_loopw [7,8,9] (fun s a i wr=>∃ j:Nat,j ≤ k + 1 ∧ s = tx (bT 0 j) ∧ a = .int .i64 ((bA 0 j:Nat):Int) ∧ i = .int .i64 j ∧ Below w.heap.size w wr) (fun _ _ i _=>k + 1 - (intOf i).toNat)
 case atStart=>exact ⟨0,by omega,rfl,rfl,rfl,b1⟩
 case round=>
  obtain ⟨j,hj,rfl,rfl,rfl,hbw⟩:=hrel
  clear hjx
  obtain ⟨R,HR⟩:∃ R:Str,Hid (R = bT 0 j):=⟨_,rfl⟩
  obtain ⟨A,HA⟩:∃ A:Nat,Hid (A = bA 0 j):=⟨_,rfl⟩
  have hR:R.length ≤ 300:=by have:=bT_len 0 j;rw [HR.out];omega
  rw [← HR.out,← HA.out]
  by_cases hlt:j < k + 1
  ·
   have hlt':(j:Int) < (k:Int) + 1:=by omega
   have hj1:IntKind.i64.wrap ((j:Int) + 1) = (j:Int) + 1:=by rw [IntKind.wrap_i64];omega
   have hd:=fun W=>dig12 j W (by omega)
   have hju:IntKind.u64.wrap (j:Int) = (j:Int):=by rw [IntKind.wrap_u64];omega
   have hjy:=jy0
   obtain ⟨D,HD⟩:∃ D:Str,Hid (D = bD j):=⟨_,rfl⟩
   have hD:D.length ≤ 2:=by rw [HD.out];exact bD_len j
   rw [← HD.out] at hd
   by_cases hm:j = 6
   ·
    have HM:Hid (j = 6):=hm
    have hm':(j:Int) = 6:=by omega
    clear hm hlt hj
    rw [hm'] at hd
    go_wp2_with fail
    refine (hd _).mono ?_
    rintro e v1 ⟨rfl,d1⟩
    go_wp2_with (refine zbm rfl 9 9 _ _ rfl _ _ rfl rfl (by simp;omega) ?_)
    refine (hd _).mono ?_
    rintro e v2 ⟨rfl,d2⟩
    go_wp2_with (refine zbm rfl 9 9 _ _ rfl _ _ rfl rfl (by simp;omega) ?_)
    go_roundw
    case rel=>
     have hm:=HM.out
     exact ⟨j + 1,by omega,by rw [HR.out];rfl,by rw [HR.out,hm];rfl,by go_num,Below.chain hbw (Below.chain d1 d2)⟩
    case measure=>simp [intOf];omega
   ·
    have HM:Hid (j ≠ 6):=hm
    have hm':¬ (j:Int) = 6:=by omega
    clear hm hj
    go_wp2_with fail
    refine (hd _).mono ?_
    rintro e v1 ⟨rfl,d1⟩
    go_wp2_with (refine zbm rfl 9 9 _ _ rfl _ _ rfl rfl (by simp;omega) ?_)
    refine (hd _).mono ?_
    rintro e v2 ⟨rfl,d2⟩
    go_wp2_with (refine zbm rfl 9 9 _ _ rfl _ _ rfl rfl (by simp;omega) ?_)
    go_roundw
    case rel=>exact ⟨j + 1,by omega,by rw [HR.out];rfl,by rw [HA.out];exact (congrArg (fun z:Nat=>Value.int .i64 (z:Int)) (bA_ne (c:=0) HM.out)).symm,by go_num,Below.chain hbw (Below.chain d1 d2)⟩
    case measure=>simp [intOf];omega
  ·
   have hlt':¬ (j:Int) < (k:Int) + 1:=by omega
   have e:j = k + 1:=by omega
   have HRk:Hid (R = bT 0 (k + 1)):=by show _ = _;rw [HR.out,e]
   have HAk:Hid (A = bA 0 (k + 1)):=by show _ = _;rw [HA.out,e]
   have hp:=fun W=>zet R W (by omega)
   have hjz:=jz0
   clear HR HA e hlt hj
   by_cases hq:6 < k + 1
   ·
    have hq':(6:Int) < (k:Int) + 1:=by omega
    have V:Hid _:=b_many (c:=0) (by decide) hk2 hq
    clear hq
    go_wp2_with fail
    refine (hp _ (HE.out.later hbw) (HT.out.later hbw)).mono ?_
    rintro e v ⟨cs,rfl,cf,s1⟩
    rw [HRk.out] at cf ⊢
    rw [V.out.1,← HAk.out]
    have row:=cf.row
    obtain ⟨al,cl,ag,cg,rfl⟩:=cf.lens
    rw [V.out.2] at row ⊢
    generalize (pF (bT 0 (k + 1))).1.rl.length = RL at *
    clear hp cf V
    go_wp2_with (first | go_skip | go_guarded | (refine zad rfl 39 _ _ rfl v.heap.size _ rfl rfl _ 39 (zac v (.cells #[.slice none 0 0,.slice none 0 0] 39)) 2 rz39 rfl row ?_;intro v1 p1 o1 z1;have d1:=((Off.of (bal (Below.refl v.heap.size v) (.cells #[.slice none 0 0,.slice none 0 0] 39)) []).trans o1 (by simp)).below (by simp);have m0:=(zaa p1 0).trans rfl;have m1:=(zaa p1 1).trans rfl))
    go_ret
    exact ⟨by simp,Below.chain (Below.chain hbw s1) d1⟩
   ·
    have hq':¬ (6:Int) < (k:Int) + 1:=by omega
    have V:Hid _:=b_good (c:=0) (by decide) hk2 hq
    have hmin:min ((k:Int) + 1) 6 = (k:Int) + 1:=by omega
    clear hq
    go_wp2_with fail
    refine (hp _ (HE.out.later hbw) (HT.out.later hbw)).mono ?_
    rintro e v ⟨cs,rfl,cf,s1⟩
    rw [HRk.out] at cf ⊢
    rw [V.out.1]
    have row:=cf.row
    obtain ⟨al,cl,ag,cg,rfl⟩:=cf.lens
    have v1:(k:Int) + 1 ≤ ((pF (bT 0 (k + 1))).1.rl.length:Int):=by have:=V.out.2;have:=this.1 (by trivial);omega
    generalize (pF (bT 0 (k + 1))).1.rl.length = RL at *
    generalize (pF (bT 0 (k + 1))).1.gs.length = GL at *
    clear hp cf V
    go_wp2_with (first | go_skip | go_guarded | (refine zad rfl 39 _ _ rfl v.heap.size _ rfl rfl _ 39 (zac v (.cells #[.slice none 0 0,.slice none 0 0] 39)) 2 rz39 rfl row ?_;intro v1 p1 o1 z1;have d1:=((Off.of (bal (Below.refl v.heap.size v) (.cells #[.slice none 0 0,.slice none 0 0] 39)) []).trans o1 (by simp)).below (by simp);have m0:=(zaa p1 0).trans rfl;have m1:=(zaa p1 1).trans rfl))
    go_ret
    exact ⟨by simp,Below.chain (Below.chain hbw s1) d1⟩
set_option maxRecDepth 4000 in
theorem bounds_1 (n x:Int) (k:Nat) (hk:n.tmod 12 = k) (hk2:k < 12) (hx:x.tmod 3 = (1:Int)) (w:World) (he:Ev w) (het:Et w):Calls Tryz.prog 7 #[.int .u8 n,.int .u8 x] w fun e w'=>e = .returned (.bool true) ∧ Below w.heap.size w w':=by
 have hkn:=zol w he het
 have HE:Hid (Ev w):=he
 have HT:Hid (Et w):=het
 have hjx:=jx1
 have hk1:IntKind.i64.wrap ((k:Int) + 1) = (k:Int) + 1:=by rw [IntKind.wrap_i64];omega
 have hkb:(k:Int) < 12:=by omega
 clear he het
 go_enter Tryz.func7,Tryz.ntmps7
 go_wp2_with fail
 refine hkn.mono ?_
 rintro e w1 ⟨rfl,b1⟩
 clear hkn
 go_wp2_with fail
 go_loopw [7,8,9] (fun s a i wr=>∃ j:Nat,j ≤ k + 1 ∧ s = tx (bT 1 j) ∧ a = .int .i64 ((bA 1 j:Nat):Int) ∧ i = .int .i64 j ∧ Below w.heap.size w wr) (fun _ _ i _=>k + 1 - (intOf i).toNat)
 case atStart=>exact ⟨0,by omega,rfl,rfl,rfl,b1⟩
 case round=>
  obtain ⟨j,hj,rfl,rfl,rfl,hbw⟩:=hrel
  clear hjx
  obtain ⟨R,HR⟩:∃ R:Str,Hid (R = bT 1 j):=⟨_,rfl⟩
  obtain ⟨A,HA⟩:∃ A:Nat,Hid (A = bA 1 j):=⟨_,rfl⟩
  have hR:R.length ≤ 300:=by have:=bT_len 1 j;rw [HR.out];omega
  rw [← HR.out,← HA.out]
  by_cases hlt:j < k + 1
  ·
   have hlt':(j:Int) < (k:Int) + 1:=by omega
   have hj1:IntKind.i64.wrap ((j:Int) + 1) = (j:Int) + 1:=by rw [IntKind.wrap_i64];omega
   have hd:=fun W=>dig12 j W (by omega)
   have hju:IntKind.u64.wrap (j:Int) = (j:Int):=by rw [IntKind.wrap_u64];omega
   have hjy:=jy1
   obtain ⟨D,HD⟩:∃ D:Str,Hid (D = bD j):=⟨_,rfl⟩
   have hD:D.length ≤ 2:=by rw [HD.out];exact bD_len j
   rw [← HD.out] at hd
   by_cases hm:j = 3
   ·
    have HM:Hid (j = 3):=hm
    have hm':(j:Int) = 3:=by omega
    clear hm hlt hj
    rw [hm'] at hd
    go_wp2_with fail
    refine (hd _).mono ?_
    rintro e v1 ⟨rfl,d1⟩
    go_wp2_with (refine zbm rfl 9 9 _ _ rfl _ _ rfl rfl (by simp;omega) ?_)
    refine (hd _).mono ?_
    rintro e v2 ⟨rfl,d2⟩
    go_wp2_with (refine zbm rfl 9 9 _ _ rfl _ _ rfl rfl (by simp;omega) ?_)
    go_roundw
    case rel=>
     have hm:=HM.out
     exact ⟨j + 1,by omega,by rw [HR.out,HD.out];rfl,by rw [HR.out,hm];rfl,by go_num,Below.chain hbw (Below.chain d1 d2)⟩
    case measure=>simp [intOf];omega
   ·
    have HM:Hid (j ≠ 3):=hm
    have hm':¬ (j:Int) = 3:=by omega
    clear hm hj
    go_wp2_with fail
    refine (hd _).mono ?_
    rintro e v1 ⟨rfl,d1⟩
    go_wp2_with (refine zbm rfl 9 9 _ _ rfl _ _ rfl rfl (by simp;omega) ?_)
    refine (hd _).mono ?_
    rintro e v2 ⟨rfl,d2⟩
    go_wp2_with (refine zbm rfl 9 9 _ _ rfl _ _ rfl rfl (by simp;omega) ?_)
    go_roundw
    case rel=>exact ⟨j + 1,by omega,by rw [HR.out,HD.out];rfl,by rw [HA.out];exact (congrArg (fun z:Nat=>Value.int .i64 (z:Int)) (bA_ne (c:=1) HM.out)).symm,by go_num,Below.chain hbw (Below.chain d1 d2)⟩
    case measure=>simp [intOf];omega
  ·
   have hlt':¬ (j:Int) < (k:Int) + 1:=by omega
   have e:j = k + 1:=by omega
   have HRk:Hid (R = bT 1 (k + 1)):=by show _ = _;rw [HR.out,e]
   have HAk:Hid (A = bA 1 (k + 1)):=by show _ = _;rw [HA.out,e]
   have hp:=fun W=>zet R W (by omega)
   have hjz:=jz1
   clear HR HA e hlt hj
   by_cases hq:3 < k + 1
   ·
    have hq':(3:Int) < (k:Int) + 1:=by omega
    have V:Hid _:=b_many (c:=1) (by decide) hk2 hq
    clear hq
    go_wp2_with fail
    refine (hp _ (HE.out.later hbw) (HT.out.later hbw)).mono ?_
    rintro e v ⟨cs,rfl,cf,s1⟩
    rw [HRk.out] at cf ⊢
    rw [V.out.1,← HAk.out]
    have row:=cf.row
    obtain ⟨al,cl,ag,cg,rfl⟩:=cf.lens
    rw [V.out.2] at row ⊢
    generalize (pF (bT 1 (k + 1))).1.rl.length = RL at *
    clear hp cf V
    go_wp2_with (first | go_skip | go_guarded | (refine zad rfl 39 _ _ rfl v.heap.size _ rfl rfl _ 39 (zac v (.cells #[.slice none 0 0,.slice none 0 0] 39)) 2 rz39 rfl row ?_;intro v1 p1 o1 z1;have d1:=((Off.of (bal (Below.refl v.heap.size v) (.cells #[.slice none 0 0,.slice none 0 0] 39)) []).trans o1 (by simp)).below (by simp);have m0:=(zaa p1 0).trans rfl;have m1:=(zaa p1 1).trans rfl))
    go_ret
    exact ⟨by simp,Below.chain (Below.chain hbw s1) d1⟩
   ·
    have hq':¬ (3:Int) < (k:Int) + 1:=by omega
    have V:Hid _:=b_good (c:=1) (by decide) hk2 hq
    have hmin:min ((k:Int) + 1) 3 = (k:Int) + 1:=by omega
    clear hq
    go_wp2_with fail
    refine (hp _ (HE.out.later hbw) (HT.out.later hbw)).mono ?_
    rintro e v ⟨cs,rfl,cf,s1⟩
    rw [HRk.out] at cf ⊢
    rw [V.out.1]
    have row:=cf.row
    obtain ⟨al,cl,ag,cg,rfl⟩:=cf.lens
    have v1:(k:Int) + 1 ≤ ((pF (bT 1 (k + 1))).1.gs.length:Int):=by have:=V.out.2;have:=this.2 (by trivial);omega
    generalize (pF (bT 1 (k + 1))).1.rl.length = RL at *
    generalize (pF (bT 1 (k + 1))).1.gs.length = GL at *
    clear hp cf V
    go_wp2_with (first | go_skip | go_guarded | (refine zad rfl 39 _ _ rfl v.heap.size _ rfl rfl _ 39 (zac v (.cells #[.slice none 0 0,.slice none 0 0] 39)) 2 rz39 rfl row ?_;intro v1 p1 o1 z1;have d1:=((Off.of (bal (Below.refl v.heap.size v) (.cells #[.slice none 0 0,.slice none 0 0] 39)) []).trans o1 (by simp)).below (by simp);have m0:=(zaa p1 0).trans rfl;have m1:=(zaa p1 1).trans rfl))
    go_ret
    exact ⟨by simp,Below.chain (Below.chain hbw s1) d1⟩
set_option maxRecDepth 4000 in
theorem bounds_2 (n x:Int) (k:Nat) (hk:n.tmod 12 = k) (hk2:k < 12) (hx:x.tmod 3 = (2:Int)) (w:World) (he:Ev w) (het:Et w):Calls Tryz.prog 7 #[.int .u8 n,.int .u8 x] w fun e w'=>e = .returned (.bool true) ∧ Below w.heap.size w w':=by
 have hkn:=zol w he het
 have HE:Hid (Ev w):=he
 have HT:Hid (Et w):=het
 have hjx:=jx2
 have hk1:IntKind.i64.wrap ((k:Int) + 1) = (k:Int) + 1:=by rw [IntKind.wrap_i64];omega
 have hkb:(k:Int) < 12:=by omega
 clear he het
 go_enter Tryz.func7,Tryz.ntmps7
 go_wp2_with fail
 refine hkn.mono ?_
 rintro e w1 ⟨rfl,b1⟩
 clear hkn
 go_wp2_with fail
 go_loopw [7,8,9] (fun s a i wr=>∃ j:Nat,j ≤ k + 1 ∧ s = tx (bT 2 j) ∧ a = .int .i64 ((bA 2 j:Nat):Int) ∧ i = .int .i64 j ∧ Below w.heap.size w wr) (fun _ _ i _=>k + 1 - (intOf i).toNat)
 case atStart=>exact ⟨0,by omega,rfl,rfl,rfl,b1⟩
 case round=>
  obtain ⟨j,hj,rfl,rfl,rfl,hbw⟩:=hrel
  clear hjx
  obtain ⟨R,HR⟩:∃ R:Str,Hid (R = bT 2 j):=⟨_,rfl⟩
  obtain ⟨A,HA⟩:∃ A:Nat,Hid (A = bA 2 j):=⟨_,rfl⟩
  have hR:R.length ≤ 300:=by have:=bT_len 2 j;rw [HR.out];omega
  rw [← HR.out,← HA.out]
  by_cases hlt:j < k + 1
  ·
   have hlt':(j:Int) < (k:Int) + 1:=by omega
   have hj1:IntKind.i64.wrap ((j:Int) + 1) = (j:Int) + 1:=by rw [IntKind.wrap_i64];omega
   have hd:=fun W=>dig12 j W (by omega)
   have hju:IntKind.u64.wrap (j:Int) = (j:Int):=by rw [IntKind.wrap_u64];omega
   have hjy:=jy2
   obtain ⟨D,HD⟩:∃ D:Str,Hid (D = bD j):=⟨_,rfl⟩
   have hD:D.length ≤ 2:=by rw [HD.out];exact bD_len j
   rw [← HD.out] at hd
   by_cases hm:j = 8
   ·
    have HM:Hid (j = 8):=hm
    have hm':(j:Int) = 8:=by omega
    clear hm hlt hj
    rw [hm'] at hd
    go_wp2_with fail
    refine (hd _).mono ?_
    rintro e v1 ⟨rfl,d1⟩
    go_wp2_with (refine zbm rfl 9 9 _ _ rfl _ _ rfl rfl (by simp;omega) ?_)
    refine (hd _).mono ?_
    rintro e v2 ⟨rfl,d2⟩
    go_wp2_with (refine zbm rfl 9 9 _ _ rfl _ _ rfl rfl (by simp;omega) ?_)
    go_roundw
    case rel=>
     have hm:=HM.out
     exact ⟨j + 1,by omega,by rw [HR.out,HD.out];rfl,by rw [HR.out,hm];rfl,by go_num,Below.chain hbw (Below.chain d1 d2)⟩
    case measure=>simp [intOf];omega
   ·
    have HM:Hid (j ≠ 8):=hm
    have hm':¬ (j:Int) = 8:=by omega
    clear hm hj
    go_wp2_with fail
    refine (hd _).mono ?_
    rintro e v1 ⟨rfl,d1⟩
    go_wp2_with (refine zbm rfl 9 9 _ _ rfl _ _ rfl rfl (by simp;omega) ?_)
    refine (hd _).mono ?_
    rintro e v2 ⟨rfl,d2⟩
    go_wp2_with (refine zbm rfl 9 9 _ _ rfl _ _ rfl rfl (by simp;omega) ?_)
    go_roundw
    case rel=>exact ⟨j + 1,by omega,by rw [HR.out,HD.out];rfl,by rw [HA.out];exact (congrArg (fun z:Nat=>Value.int .i64 (z:Int)) (bA_ne (c:=2) HM.out)).symm,by go_num,Below.chain hbw (Below.chain d1 d2)⟩
    case measure=>simp [intOf];omega
  ·
   have hlt':¬ (j:Int) < (k:Int) + 1:=by omega
   have e:j = k + 1:=by omega
   have HRk:Hid (R = bT 2 (k + 1)):=by show _ = _;rw [HR.out,e]
   have HAk:Hid (A = bA 2 (k + 1)):=by show _ = _;rw [HA.out,e]
   have hp:=fun W=>zet R W (by omega)
   have hjz:=jz2
   clear HR HA e hlt hj
   by_cases hq:8 < k + 1
   ·
    have hq':(8:Int) < (k:Int) + 1:=by omega
    have V:Hid _:=b_many (c:=2) (by decide) hk2 hq
    clear hq
    go_wp2_with fail
    refine (hp _ (HE.out.later hbw) (HT.out.later hbw)).mono ?_
    rintro e v ⟨cs,rfl,cf,s1⟩
    rw [HRk.out] at cf ⊢
    rw [V.out.1,← HAk.out]
    have row:=cf.row
    obtain ⟨al,cl,ag,cg,rfl⟩:=cf.lens
    rw [V.out.2] at row ⊢
    generalize (pF (bT 2 (k + 1))).1.rl.length = RL at *
    clear hp cf V
    go_wp2_with (first | go_skip | go_guarded | (refine zad rfl 39 _ _ rfl v.heap.size _ rfl rfl _ 39 (zac v (.cells #[.slice none 0 0,.slice none 0 0] 39)) 2 rz39 rfl row ?_;intro v1 p1 o1 z1;have d1:=((Off.of (bal (Below.refl v.heap.size v) (.cells #[.slice none 0 0,.slice none 0 0] 39)) []).trans o1 (by simp)).below (by simp);have m0:=(zaa p1 0).trans rfl;have m1:=(zaa p1 1).trans rfl))
    go_ret
    exact ⟨by simp,Below.chain (Below.chain hbw s1) d1⟩
   ·
    have hq':¬ (8:Int) < (k:Int) + 1:=by omega
    have V:Hid _:=b_good (c:=2) (by decide) hk2 hq
    have hmin:min ((k:Int) + 1) 8 = (k:Int) + 1:=by omega
    clear hq
    go_wp2_with fail
    refine (hp _ (HE.out.later hbw) (HT.out.later hbw)).mono ?_
    rintro e v ⟨cs,rfl,cf,s1⟩
    rw [HRk.out] at cf ⊢
    rw [V.out.1]
    have row:=cf.row
    obtain ⟨al,cl,ag,cg,rfl⟩:=cf.lens
    have v1:(k:Int) + 1 ≤ 8:=by have:=V.out.2;omega
    generalize (pF (bT 2 (k + 1))).1.rl.length = RL at *
    generalize (pF (bT 2 (k + 1))).1.gs.length = GL at *
    clear hp cf V
    go_wp2_with (first | go_skip | go_guarded | (refine zad rfl 39 _ _ rfl v.heap.size _ rfl rfl _ 39 (zac v (.cells #[.slice none 0 0,.slice none 0 0] 39)) 2 rz39 rfl row ?_;intro v1 p1 o1 z1;have d1:=((Off.of (bal (Below.refl v.heap.size v) (.cells #[.slice none 0 0,.slice none 0 0] 39)) []).trans o1 (by simp)).below (by simp);have m0:=(zaa p1 0).trans rfl;have m1:=(zaa p1 1).trans rfl))
    go_ret
    exact ⟨by simp,Below.chain (Below.chain hbw s1) d1⟩
theorem bounds_any (n x:Int) (hn0:0 ≤ n) (hx0:0 ≤ x) (w:World) (he:Ev w) (het:Et w):Calls Tryz.prog 7 #[.int .u8 n,.int .u8 x] w fun e w'=>e = .returned (.bool true) ∧ Below w.heap.size w w':=by
 have h1:0 ≤ n.tmod 12:=Int.tmod_nonneg _ hn0
 have h2:n.tmod 12 < 12:=Int.tmod_lt_of_pos _ (by decide)
 have h3:0 ≤ x.tmod 3:=Int.tmod_nonneg _ hx0
 have h4:x.tmod 3 < 3:=Int.tmod_lt_of_pos _ (by decide)
 rcases (by omega:x.tmod 3 = 0 ∨ x.tmod 3 = 1 ∨ x.tmod 3 = 2) with h | h | h
 ·
  exact bounds_0 n x (n.tmod 12).toNat (by omega) (by omega) h w he het
 ·
  exact bounds_1 n x (n.tmod 12).toNat (by omega) (by omega) h w he het
 ·
  exact bounds_2 n x (n.tmod 12).toNat (by omega) (by omega) h w he het
theorem bounds_row (n x:Nat) (w:World) (_hn:n ≤ 255) (_hx:x ≤ 255) (he:Ev w ∧ Et w):Calls Tryz.prog 7 #[.int .u8 n,.int .u8 x] w fun e w'=>e = .returned (.bool true) ∧ Below w.heap.size w w':=bounds_any n x (by omega) (by omega) w he.1 he.2
end Go.Proofs.YtjlaihekocjggaaGreatDoor
