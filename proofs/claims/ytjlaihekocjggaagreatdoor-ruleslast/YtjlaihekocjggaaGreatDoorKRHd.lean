/- Texts that the others lean on. -/
import Derived.Test.YtjlaihekocjggaaGreatDoorKQRMem
set_option maxHeartbeats 16000000
namespace Go.Proofs.YtjlaihekocjggaaGreatDoor
open Go.RowKit
theorem zcp:(Tryz.prog.info? 136).map (·.size) = some 2:=by kernel_rfl
theorem rz87:(Tryz.prog.info? 87).map (·.size) = some 2:=by kernel_rfl
theorem rz84:(Tryz.prog.info? 84).map (·.size) = some 2:=by kernel_rfl
theorem rz39:(Tryz.prog.info? 39).map (·.size) = some 2:=by kernel_rfl
theorem rz59:(Tryz.prog.info? 59).map (·.size) = some 6:=by kernel_rfl
theorem zgq:(Tryz.prog.info? 138).map (·.size) = some 3:=by kernel_rfl
theorem rz62:(Tryz.prog.info? 62).map (·.size) = some 3:=by kernel_rfl
theorem rz65:(Tryz.prog.info? 65).map (·.size) = some 15:=by kernel_rfl
theorem zku:(Tryz.prog.info? 235).map (·.size) = some 6:=by kernel_rfl
abbrev hv (n:Str) (v:Int):Value:=.agg #[tx n,.int .i64 v]
theorem zhg (n:Str) (v:Int) (w:World) (hl:Big n):Calls Tryz.prog 104 #[hv n v] w fun e w'=>e = .returned (.bool (isHd n v)) ∧ Below w.heap.size w w':=by
 have hn:=fun W=>zbx n W hl
 have B:=bal (Below.refl w.heap.size w) (.cells #[tx n,.int .i64 v] 136)
 have q:=zac w (.cells #[tx n,.int .i64 v] 136)
 have c0:=(zaa q 0).trans rfl
 have c1:=(zaa q 1).trans rfl
 have HV:Hid (isHd n v = (fName n && decide (1 ≤ v) && decide (v ≤ 20))):=rfl
 generalize fName n = f at *
 cases f with
 | false=>
  go_enter Tryz.func104,Tryz.ntmps104
  go_wp2_with fail
  generalize w.alloc (.cells #[tx n,.int .i64 v] 136) = w0 at *
  refine (hn _).mono ?_
  rintro e w1 ⟨rfl,rfl⟩
  go_wp2_with fail
  go_ret
  exact ⟨by rw [HV.out];simp,B⟩
 | true=>
  by_cases h1:1 ≤ v
  ·
   by_cases h2:v ≤ 20
   ·
    have HV2:Hid (isHd n v = true):=by show _ = _;rw [HV.out];simp [h1,h2]
    clear HV
    go_enter Tryz.func104,Tryz.ntmps104
    go_wp2_with fail
    generalize w.alloc (.cells #[tx n,.int .i64 v] 136) = w0 at *
    refine (hn _).mono ?_
    rintro e w1 ⟨rfl,rfl⟩
    go_wp2_with fail
    go_ret
    exact ⟨by rw [HV2.out];first | rfl | simp [*],B⟩
   have HV2:Hid (isHd n v = false):=by show _ = _;rw [HV.out];simp [h2]
   clear HV
   go_enter Tryz.func104,Tryz.ntmps104
   go_wp2_with fail
   generalize w.alloc (.cells #[tx n,.int .i64 v] 136) = w0 at *
   refine (hn _).mono ?_
   rintro e w1 ⟨rfl,rfl⟩
   go_wp2_with fail
   go_ret
   exact ⟨by rw [HV2.out];first | rfl | simp [*],B⟩
  have HV2:Hid (isHd n v = false):=by show _ = _;rw [HV.out];simp [h1]
  clear HV
  go_enter Tryz.func104,Tryz.ntmps104
  go_wp2_with fail
  generalize w.alloc (.cells #[tx n,.int .i64 v] 136) = w0 at *
  refine (hn _).mono ?_
  rintro e w1 ⟨rfl,rfl⟩
  go_wp2_with fail
  go_ret
  exact ⟨by rw [HV2.out];first | rfl | simp [*],B⟩
theorem zjx (n:Str) (v:Int) (w:World) (hl:n.length ≤ 1000000) (h0:-9223372036854775808 ≤ v) (h1:v ≤ 9223372036854775807) (ht:Fx.Tab Tryz.prog w):Calls Tryz.prog 190 #[hv n v] w fun e w'=>e = .returned (tx (hdL n v)) ∧ Below w.heap.size w w':=by
 have hit:=fun W (h:Fx.Tab Tryz.prog W)=>znd v W h0 h1 h
 have B:=bal (Below.refl w.heap.size w) (.cells #[tx n,.int .i64 v] 136)
 have q:=zac w (.cells #[tx n,.int .i64 v] 136)
 have tb:=ht.later B
 have hil:(Lib.itoa v).length ≤ 21:=Lib.itoa_length_le v h0 h1
 generalize hI:Lib.itoa v = it at *
 have HI:Hid (Lib.itoa v = it):=hI
 clear hI
 obtain ⟨q1,H1⟩:∃ q,Hid (q = gW ++ n):=⟨gW ++ n,(rfl:gW ++ n = gW ++ n)⟩
 obtain ⟨q2,H2⟩:∃ q,Hid (q = q1 ++ [32]):=⟨q1 ++ [32],(rfl:q1 ++ [32] = q1 ++ [32])⟩
 obtain ⟨q3,H3⟩:∃ q,Hid (q = q2 ++ [101,118,101,114,121]):=⟨q2 ++ [101,118,101,114,121],(rfl:q2 ++ [101,118,101,114,121] = q2 ++ [101,118,101,114,121])⟩
 obtain ⟨q4,H4⟩:∃ q,Hid (q = q3 ++ [32]):=⟨q3 ++ [32],(rfl:q3 ++ [32] = q3 ++ [32])⟩
 obtain ⟨q5,H5⟩:∃ q,Hid (q = q4 ++ it):=⟨q4 ++ it,(rfl:q4 ++ it = q4 ++ it)⟩
 have k1:q1.length ≤ 1000006:=by rw [H1.out];simp [gW];omega
 have k2:q2.length ≤ 1000007:=by rw [H2.out];simp;omega
 have k3:q3.length ≤ 1000012:=by rw [H3.out];simp;omega
 have k4:q4.length ≤ 1000013:=by rw [H4.out];simp;omega
 have HR:Hid (hdL n v = q5):=by show _ = _;unfold hdL;rw [H5.out,H4.out,H3.out,H2.out,H1.out];rw [HI.out];simp [eW]
 clear ht
 go_enter Tryz.func190,Tryz.ntmps190
 go_wp2_with fail
 generalize w.alloc (.cells #[tx n,.int .i64 v] 136) = w0 at *
 have C0:Below w0.heap.size w0 w0.drew:=(Below.refl _ _).drew
 refine wp_region_noPanic ?_
 refine wp_region_held_drew (S:=fun W=>Below w0.heap.size w0 W) (by kernel_rfl) ?_ (fun _=>?_)
 ·
  exact C0
 generalize w0.drew = wd at *
 refine tk 0 3 (.pointer (some ⟨w.heap.size,0,none⟩)) rfl (fun W hSw=>by go_simp) C0 ?_
 simp only [Act.put,pB,pC,pD]
 refine tk 1 4 (tx n) rfl (fun W hSw=>by (have c0:=(zaa (zab hSw q) 0).trans rfl;go_simp)) C0 ?_
 simp only [Act.put,pB,pC,pD]
 refine tk 2 5 (tx q1) rfl (fun W hSw=>by exact zam rfl gW n rfl rfl (by simp [gW];omega) q1 H1.out W) C0 ?_
 simp only [Act.put,pB,pC,pD]
 refine tk 3 6 (tx q2) rfl (fun W hSw=>by exact zam rfl q1 [32] rfl rfl (by simp;omega) q2 H2.out W) C0 ?_
 simp only [Act.put,pB,pC,pD]
 refine tk 4 7 (tx q3) rfl (fun W hSw=>by exact zam rfl q2 [101,118,101,114,121] rfl rfl (by simp;omega) q3 H3.out W) C0 ?_
 simp only [Act.put,pB,pC,pD]
 refine tk 5 8 (tx q4) rfl (fun W hSw=>by exact zam rfl q3 [32] rfl rfl (by simp;omega) q4 H4.out W) C0 ?_
 simp only [Act.put,pB,pC,pD]
 refine tk 6 9 (.pointer (some ⟨w.heap.size,1,none⟩)) rfl (fun W hSw=>by go_simp) C0 ?_
 simp only [Act.put,pB,pC,pD]
 refine tk 7 10 (.int .i64 v) rfl (fun W hSw=>by (have c0:=(zaa (zab hSw q) 1).trans rfl;go_simp)) C0 ?_
 simp only [Act.put,pB,pC,pD]
 refine wpAnyH_ready (rs:=[8]) (by kernel_rfl) (by simp) ?_
 refine aR rfl fun K hK=>?_
 go_simp
 refine (hit _ (tb.later C0)).mono ?_
 rintro e w2 ⟨rfl,hc2⟩
 have C2:=Below.chain C0 hc2
 refine hK.out _ _ ?_ (fun _=>?_)
 ·
  exact C2
 clear hK K
 refine tk 9 12 (tx q5) rfl (fun W hSw=>by exact zam rfl q4 it rfl rfl (by omega) q5 H5.out W) C2 ?_
 simp only [Act.put,pB,pC,pD]
 refine tk 10 2 (tx q5) rfl (fun W hSw=>by go_simp) C2 ?_
 simp only [Act.put,pB,pC,pD]
 refine wpAnyH_done (by kernel_rfl) ?_ _
 refine NoPanic.normal ?_
 go_wp2_with fail
 go_ret
 exact ⟨by rw [HR.out];rfl,Below.chain B C2⟩
theorem zfz (n:Str) (v:Int) (s:Str) (w:World):Calls Tryz.prog 109 #[hv n v,tx s] w fun e w'=>e = .returned (.bool (n == s)) ∧ Below w.heap.size w w':=by
 have B:=bal (Below.refl w.heap.size w) (.cells #[tx n,.int .i64 v] 136)
 have q:=zac w (.cells #[tx n,.int .i64 v] 136)
 have c0:=(zaa q 0).trans rfl
 go_enter Tryz.func109,Tryz.ntmps109
 go_wp2_with fail
 generalize w.alloc (.cells #[tx n,.int .i64 v] 136) = w0 at *
 go_ret
 exact ⟨by simp,B⟩
theorem zou (n:Str) (v:Int) (u:Value) (hb:Nat) (s:Str) (x:Int) (w:World) (hu:∃ a m c,u = .slice a m c) (hh:w.heap[hb]? = some (.cells #[tx s,.int .i64 x] 136)) :
  Calls Tryz.prog 168 #[.agg #[tx n,.int .i64 v,u],.pointer (some ⟨hb,0,none⟩)] w fun e w'=>e = .returned (.bool (n == s)) ∧ Below w.heap.size w w':=by
 obtain ⟨a,m,c,rfl⟩:=hu
 have B:=bal (Below.refl w.heap.size w) (.cells #[tx n,.int .i64 v,.slice a m c] 138)
 have q:=zac w (.cells #[tx n,.int .i64 v,.slice a m c] 138)
 have hh1:=zab B hh
 have c0:=(zaa q 0).trans rfl
 have c1:=(zaa q 1).trans rfl
 have d0:=(zaa hh1 0).trans rfl
 have hn:=fun W=>zfz n v s W
 go_enter Tryz.func168,Tryz.ntmps168
 go_wp2_with fail
 generalize w.alloc (.cells #[tx n,.int .i64 v,.slice a m c] 138) = w0 at *
 refine (hn _).mono ?_
 rintro e w1 ⟨rfl,b1⟩
 go_wp2_with fail
 go_ret
 exact ⟨rfl,Below.chain B b1⟩
end Go.Proofs.YtjlaihekocjggaaGreatDoor
