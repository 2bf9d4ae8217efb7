/- Texts that the others lean on. -/
import Derived.OwnWalk
import Derived.Test.YtjlaihekocjggaaGreatDoorKRUb
import Derived.Test.YtjlaihekocjggaaGreatDoorKRHd
import Derived.Test.YtjlaihekocjggaaGreatDoorKRPl
set_option maxHeartbeats 16000000
namespace Go.Proofs.YtjlaihekocjggaaGreatDoor
open Go.RowKit
theorem zoh (ao:Option Addr) (n c:Nat) (l:List Pr) (w:World) (hn:n ≤ 1000000) (hf:Lb.Fit l) (h:Lb.Ps w ao n l):Calls Tryz.prog 239 #[.slice ao n c] w fun e w'=>e = .returned (.bool (fName (fGet l nm))) ∧ Below w.heap.size w w':=by
 have hg:=Lb.get_any ao n c l nm w (by omega) h
 have hnm:=fun W=>zbx (fGet l nm) W (Lb.get_len hf nm)
 go_enter Tryz.func239,Tryz.ntmps239
 go_wp2_with fail
 refine hg.mono ?_
 rintro e w1 ⟨rfl,b1⟩
 go_wp2_with fail
 refine (hnm _).mono ?_
 rintro e w2 ⟨rfl,rfl⟩
 go_wp2_with fail
 go_ret
 exact ⟨rfl,b1⟩
theorem ex_head (s:Str) (k:Nat):(⟨s.toArray⟩:ByteArray).extract 0 k = ⟨(s.take k).toArray⟩:=by
 rw [Lib.extract_eq]
 simp
theorem hasP_any (s p:Str) (w:World):Calls Tryz.prog 237 #[tx s,tx p] w fun e w'=>e = .returned (.bool (Lib.hasPrefix s p)) ∧ w = w':=by
 refine (Tryz.x_strings_HasPrefix ⟨s.toArray⟩ ⟨p.toArray⟩ w).mono ?_
 rintro e w' ⟨rfl,rfl⟩
 exact ⟨rfl,rfl⟩
theorem hasP_len {s p:Str} (h:Lib.hasPrefix s p = true):p.length ≤ s.length:=by
 unfold Lib.hasPrefix at h
 exact (List.isPrefixOf_iff_prefix.1 h).length_le
theorem zof {s:Str} (hs:s.length ≤ 100000):Lb.Fit (parseL s):=by
 unfold parseL
 split
 ·
  exact Lb.make_fit (Lb.rdAll_fit hs)
 exact fun p hp=>by cases hp
theorem zhc {s:Str} (hs:s.length ≤ 100000):(parseL s).length ≤ 1000000:=by
 unfold parseL
 split
 ·
  have:=Lb.make_len (rdAll s)
  have:=(Lb.rdAll_len s).2
  omega
 simp
theorem zjf (l:Str) (w:World) (hs:l.length ≤ 90000) (hm:Mx w):Calls Tryz.prog 169 #[tx l] w fun e w'=>∃ v t,e = .returned (.tuple #[v,tx t,.bool (rcOk l)]) ∧ (rcOk l = true → t = rcX l ∧ Lb.Own w' w.heap.size v (parseL (rcS l))) ∧ Below w.heap.size w w':=by
 have htr:=Lb.trim_any l rW w
 have hrl:(rcR l).length ≤ l.length:=Lib.trimPrefix_le l rW
 have hub:=fun W=>ub_any (rcR l) W (by omega)
 have hle:=ub_le (rcR l).length (rcR l) (Nat.le_refl _) false
 have HO:Hid (rcOk l = (Lib.hasPrefix (rcT l) bW && decide (parseE (rcS l) = 0) && fName (rcM l))):=rfl
 have htl:(rcT l).length = (rcR l).length - ub false (rcR l):=by unfold rcT;simp
 have hpf:=fun W=>hasP_any (rcT l) bW W
 have hpa:=fun W (h:Mx W)=>Lb.parse_any (rcS l) W (by unfold rcS;simp;omega) h
 have hfit:=zof (s:=rcS l) (by unfold rcS;simp;omega)
 have hpl:=zhc (s:=rcS l) (by unfold rcS;simp;omega)
 have hnm:=fun ao c W (h:Lb.Ps W ao (parseL (rcS l)).length (parseL (rcS l)))=>zoh ao _ c (parseL (rcS l)) W hpl hfit h
 have HX:Hid (rcX l = (rcR l).drop (ub false (rcR l) + 3)):=rfl
 have hsl1:(⟨(rcR l).toArray⟩:ByteArray).extract (ub false (rcR l)) (rcR l).length = ⟨(rcT l).toArray⟩:=zey _ _
 have hsl2:(⟨(rcR l).toArray⟩:ByteArray).extract 0 (ub false (rcR l)) = ⟨(rcS l).toArray⟩:=ex_head _ _
 have hsl3:(⟨(rcR l).toArray⟩:ByteArray).extract (ub false (rcR l) + 3) (rcR l).length = ⟨(rcX l).toArray⟩:=zey _ _
 have htr:Calls Tryz.prog 233 #[tx l,tx rW] w fun e w'=>e = .returned (tx (rcR l)) ∧ w = w':=htr
 clear hfit hpl HX
 unfold rcM at HO
 generalize rcX l = X at *
 generalize rcS l = S at *
 generalize rcT l = T at *
 generalize rcR l = R at *
 generalize ub false R = k at *
 have hkR:(k:Int) ≤ R.length:=by omega
 have hk0:(0:Int) ≤ k:=by omega
 cases hp:Lib.hasPrefix T bW with
 | false=>
  rw [hp] at hpf HO
  clear hp
  go_enter Tryz.func169,Tryz.ntmps169
  go_wp2_with fail
  refine htr.mono ?_
  rintro e w1 ⟨rfl,rfl⟩
  go_wp2_with fail
  refine (hub _).mono ?_
  rintro e w1 ⟨rfl,rfl⟩
  go_wp2_with fail
  refine (hpf _).mono ?_
  rintro e w1 ⟨rfl,rfl⟩
  go_wp2_with fail
  exact bodyPost_ret (results_tmp3 Tryz.results169 _ _ _) rfl ⟨_,[],by rw [HO.out];rfl,fun h=>by rw [HO.out] at h;simp at h,Below.refl _ _⟩
 | true=>
  have h3:=hasP_len hp
  have h3:3 ≤ T.length:=h3
  rw [hp] at hpf HO
  clear hp
  have hk3:(k:Int) + 3 ≤ R.length:=by omega
  have hk4:(0:Int) ≤ k + 3:=by omega
  have hwr:IntKind.i64.wrap ((k:Int) + 3) = (k:Int) + 3:=by rw [IntKind.wrap_i64];omega
  have htn:((k:Int) + 3).toNat = k + 3:=by omega
  go_enter Tryz.func169,Tryz.ntmps169
  go_wp2_with fail
  refine htr.mono ?_
  rintro e w1 ⟨rfl,rfl⟩
  go_wp2_with fail
  refine (hub _).mono ?_
  rintro e w1 ⟨rfl,rfl⟩
  go_wp2_with fail
  refine (hpf _).mono ?_
  rintro e w1 ⟨rfl,rfl⟩
  go_wp2_with fail
  refine (hpa _ hm).mono ?_
  rintro e w1 ⟨v,rfl,own,b1⟩
  obtain ⟨ao,cap,rfl,ps⟩:=own.fitN
  go_upto_region 6 with fail
  have C0:Below w1.heap.size w1 w1.drew:=(Below.refl _ _).drew
  by_cases he:parseE S = 0
  ·
   rw [he] at HO ⊢
   refine wp_region_noPanic ?_
   refine wp_region_held_drew (S:=fun W=>Below w1.heap.size w1 W) (by kernel_rfl) ?_ (fun _=>?_)
   ·
    exact C0
   generalize w1.drew = wd at *
   refine tk 0 25 (.slice ao (parseL S).length cap) rfl (fun W hSw=>by go_simp) C0 ?_
   simp only [Act.put,pB,pC,pD]
   refine tk 1 26 (tx R) rfl (fun W hSw=>by go_simp) C0 ?_
   simp only [Act.put,pB,pC,pD]
   refine tk 2 27 (.int .i64 k) rfl (fun W hSw=>by go_simp) C0 ?_
   simp only [Act.put,pB,pC,pD]
   refine tk 3 28 (.int .i64 ((k:Int) + 3)) rfl (fun W hSw=>by go_simp) C0 ?_
   simp only [Act.put,pB,pC,pD]
   refine tk 4 29 (tx X) rfl (fun W hSw=>by go_simp) C0 ?_
   simp only [Act.put,pB,pC,pD]
   refine tk 5 30 (.int .i64 (0)) rfl (fun W hSw=>by go_simp) C0 ?_
   simp only [Act.put,pB,pC,pD]
   refine tk 6 31 (.bool true) rfl (fun W hSw=>by go_simp) C0 ?_
   simp only [Act.put,pB,pC,pD]
   refine tk 7 32 (.bool true) rfl (fun W hSw=>by go_simp) C0 ?_
   simp only [Act.put,pB,pC,pD]
   refine tk 8 33 (.slice ao (parseL S).length cap) rfl (fun W hSw=>by go_simp) C0 ?_
   simp only [Act.put,pB,pC,pD]
   refine wpAnyH_ready (rs:=[9]) (by kernel_rfl) (by simp) ?_
   refine aR rfl fun K hK=>?_
   go_simp
   refine (hnm _ _ _ (ps.later C0)).mono ?_
   rintro e w2 ⟨rfl,hc2⟩
   have C2:=Below.chain C0 hc2
   refine hK.out _ _ ?_ (fun _=>?_)
   ·
    exact C2
   clear hK K
   refine tk 10 35 (.bool (fName (fGet (parseL S) nm))) rfl (fun W hSw=>by go_simp) C2 ?_
   simp only [Act.put,pB,pC,pD]
   refine tk 11 2 (.slice ao (parseL S).length cap) rfl (fun W hSw=>by go_simp) C2 ?_
   simp only [Act.put,pB,pC,pD]
   refine tk 12 3 (tx X) rfl (fun W hSw=>by go_simp) C2 ?_
   simp only [Act.put,pB,pC,pD]
   refine tk 13 4 (.bool (fName (fGet (parseL S) nm))) rfl (fun W hSw=>by go_simp) C2 ?_
   simp only [Act.put,pB,pC,pD]
   refine wpAnyH_done (by kernel_rfl) ?_ _
   refine NoPanic.normal ?_
   go_wp2_with fail
   exact bodyPost_ret (results_tmp3 Tryz.results169 _ _ _) rfl ⟨_,X,by rw [HO.out];simp,fun _=>⟨rfl,own.later C2⟩,Below.chain b1 C2⟩
  have hne:(parseE S == 0) = false:=beq_eq_false_iff_ne.2 he
  have HO2:Hid (rcOk l = false):=by show _ = _;rw [HO.out];simp [he]
  clear HO
  refine wp_region_noPanic ?_
  refine wp_region_held_drew (S:=fun W=>Below w1.heap.size w1 W) (by kernel_rfl) ?_ (fun _=>?_)
  ·
   exact C0
  generalize w1.drew = wd at *
  refine tk 0 25 (.slice ao (parseL S).length cap) rfl (fun W hSw=>by go_simp) C0 ?_
  simp only [Act.put,pB,pC,pD]
  refine tk 1 26 (tx R) rfl (fun W hSw=>by go_simp) C0 ?_
  simp only [Act.put,pB,pC,pD]
  refine tk 2 27 (.int .i64 k) rfl (fun W hSw=>by go_simp) C0 ?_
  simp only [Act.put,pB,pC,pD]
  refine tk 3 28 (.int .i64 ((k:Int) + 3)) rfl (fun W hSw=>by go_simp) C0 ?_
  simp only [Act.put,pB,pC,pD]
  refine tk 4 29 (tx X) rfl (fun W hSw=>by go_simp) C0 ?_
  simp only [Act.put,pB,pC,pD]
  refine tk 5 30 (.int .i64 (parseE S)) rfl (fun W hSw=>by go_simp) C0 ?_
  simp only [Act.put,pB,pC,pD]
  refine tk 6 31 (.bool false) rfl (fun W hSw=>by go_simp) C0 ?_
  simp only [Act.put,pB,pC,pD]
  refine tk 7 32 (.bool false) rfl (fun W hSw=>by go_simp) C0 ?_
  simp only [Act.put,pB,pC,pD]
  refine zaw 8 (some 33) rfl rfl (by kernel_rfl) (by kernel_rfl) (by kernel_rfl) (fun _ _ _ h=>h) (by rfl) C0 ?_
  simp only [Act.put,pB,pC,pD]
  refine zaw 9 (some 34) rfl rfl (by kernel_rfl) (by kernel_rfl) (by kernel_rfl) (fun _ _ _ h=>h) (by rfl) C0 ?_
  simp only [Act.put,pB,pC,pD]
  refine tk 10 35 (.bool false) rfl (fun W hSw=>by go_simp) C0 ?_
  simp only [Act.put,pB,pC,pD]
  refine tk 11 2 (.slice ao (parseL S).length cap) rfl (fun W hSw=>by go_simp) C0 ?_
  simp only [Act.put,pB,pC,pD]
  refine tk 12 3 (tx X) rfl (fun W hSw=>by go_simp) C0 ?_
  simp only [Act.put,pB,pC,pD]
  refine tk 13 4 (.bool false) rfl (fun W hSw=>by go_simp) C0 ?_
  simp only [Act.put,pB,pC,pD]
  refine wpAnyH_done (by kernel_rfl) ?_ _
  refine NoPanic.normal ?_
  go_wp2_with fail
  exact bodyPost_ret (results_tmp3 Tryz.results169 _ _ _) rfl ⟨_,X,by rw [HO2.out];rfl,fun h=>(by rw [HO2.out] at h;cases h),Below.chain b1 C0⟩
theorem zfl (t:Str) (w:World) (hs:t.length ≤ 1000000) (he:Ev w) (het:Et w):Calls Tryz.prog 170 #[tx t] w fun e w'=>∃ cs,e = .returned (.tuple #[.agg cs,.int .i64 (exW t).1,.int .i64 (exW t).2]) ∧ Tr w.heap.size w' (psX t) cs ∧ Below w.heap.size w w':=by
 have B0:=bal (Below.refl w.heap.size w) (.cells (exA 0 0 false 0 [] nl 0 false false false false nl nl) 28)
 have q0:=zac w (.cells (exA 0 0 false 0 [] nl 0 false false false false nl nl) 28)
 have hp:=parse_any t (w.alloc (.cells (exA 0 0 false 0 [] nl 0 false false false false nl nl) 28)) hs (he.later B0)
 have hsm:=(ps_sm t).1
 have hru:=fun W cs (h:Tr (w.heap.size + 1) W (psX t) cs) (h2:Et W)=>zmr h hsm h2
 have HE:Hid (exW t = if psE t = 0 then ruE (ofE (psX t)) (psX t) else (psA t,psE t)):=rfl
 have et0:=het.later B0
 have h4:4 < w.heap.size:=World.block_lt_of_cell? _ _ het
 have hz0:(w.alloc (.cells (exA 0 0 false 0 [] nl 0 false false false false nl nl) 28)).heap.size = w.heap.size + 1:=by simp
 clear he het hsm
 go_enter Tryz.func170,Tryz.ntmps170
 go_wp2_with fail
 generalize w.alloc (.cells (exA 0 0 false 0 [] nl 0 false false false false nl nl) 28) = w0 at *
 refine hp.mono ?_
 rintro e w1 ⟨cs,rfl,tr,b1⟩
 have row:=tr.row
 have q1:=zab b1 q0
 have B1:=Below.chain B0 b1
 have et1:=et0.later b1
 have z1:=b1.size
 have qn:=zac w1 (.cells (exA 0 0 false 0 [] nl 0 false false false false nl nl) 28)
 clear hp B0 q0 et0
 by_cases hz:psE t = 0
 ·
  have hz':(psE t == 0) = true:=by rw [hz];rfl
  have HE2:Hid (exW t = ruE (ofE (psX t)) (psX t)):=by show _ = _;rw [HE.out,if_pos hz]
  clear HE
  go_wp2_with (first | (refine zad rfl 28 _ _ rfl w1.heap.size cs rfl rfl _ 28 qn 13 zae rfl row ?_;intro w3 p3 o3 z3;have b13:=((Off.of (bal (Below.refl w1.heap.size w1) (.cells (exA 0 0 false 0 [] nl 0 false false false false nl nl) 28)) []).trans o3 (by simp)).below (by simp);have q3:=zab b13 q1) | (refine zaj rfl 28 _ rfl w1.heap.size cs 28 rfl p3 _ Tryz.underlying28 rfl 13 zae row.1 ?_))
  have tr3:=tr.later b13
  have B3:=Below.chain B1 b13
  have et3:=et1.later b13
  refine (hru _ _ (by rw [hz0] at tr3;exact tr3) et3).mono ?_
  rintro e w4 ⟨rfl,b4⟩
  have q4:=zab b4 q3
  have p4:=zab b4 p3
  have tr4:=tr3.later b4
  have B4:=Below.chain B3 b4
  have z4:=b4.size
  go_wp2_with (first | (refine zad rfl 28 _ _ rfl w.heap.size cs rfl rfl _ 28 q4 13 zae rfl row ?_;intro w5 q5 o5 z5) | (refine zaj rfl 28 _ rfl w1.heap.size cs 28 rfl p4 _ Tryz.underlying28 rfl 13 zae row.1 ?_))
  exact bodyPost_ret (zax Tryz.results170 _ _ w.heap.size 28 cs _ rfl q5 Tryz.underlying28 rfl 13 zae row.1) rfl ⟨cs,by rw [HE2.out];rfl,Tr.lower (by omega) _ (Tr.off o5 (by simp;omega) _ tr4),((Off.of B4 []).trans o5 (by simp)).below (by simp)⟩
 have hz':(psE t == 0) = false:=beq_eq_false_iff_ne.2 hz
 have HE2:Hid (exW t = (psA t,psE t)):=by show _ = _;rw [HE.out,if_neg hz]
 clear HE hru
 go_wp2_with (first | (refine zad rfl 28 _ _ rfl w1.heap.size cs rfl rfl _ 28 qn 13 zae rfl row ?_;intro w3 p3 o3 z3;have b13:=((Off.of (bal (Below.refl w1.heap.size w1) (.cells (exA 0 0 false 0 [] nl 0 false false false false nl nl) 28)) []).trans o3 (by simp)).below (by simp);have q3:=zab b13 q1) | (refine zaj rfl 28 _ rfl w1.heap.size cs 28 rfl p3 _ Tryz.underlying28 rfl 13 zae row.1 ?_) | (refine zad rfl 28 _ _ rfl w.heap.size cs rfl rfl _ 28 q3 13 zae rfl row ?_;intro w5 q5 o5 z5))
 have tr3:=tr.later b13
 have B3:=Below.chain B1 b13
 have et3:=et1.later b13
 exact bodyPost_ret (zax Tryz.results170 _ _ w.heap.size 28 cs _ rfl q5 Tryz.underlying28 rfl 13 zae row.1) rfl ⟨cs,by rw [HE2.out];rfl,Tr.lower (by omega) _ (Tr.off o5 (by simp;omega) _ tr3),((Off.of B3 []).trans o5 (by simp)).below (by simp)⟩
end Go.Proofs.YtjlaihekocjggaaGreatDoor
