/- Texts that the others lean on. -/
import Derived.Test.YtjlaihekocjggaaGreatDoorKRGrp2
set_option maxHeartbeats 16000000
namespace Go.Proofs.YtjlaihekocjggaaGreatDoor
open Go.RowKit
theorem ne2 {a b:Str} (h:a ≠ b):(a == b) = false:=beq_eq_false_iff_ne.2 h
theorem eq2 {a b:Str} (h:a = b):(a == b) = true:=beq_iff_eq.2 h
theorem mkK_any (s:Str) (w:World):Calls Tryz.prog 289 #[tx s] w fun e w'=>e = .returned (.int .i64 (mkK s)) ∧ w = w':=by
 have HV:Hid (mkK s = if s = [61] then 1 else if s = [33,61] then 2 else if s = [94,61] then 3 else if s = [42,61] then 4 else 0):=rfl
 by_cases h1:s = [61]
 ·
  have e1:=eq2 h1
  have HN:Hid (mkK s = 1):=by show _ = _;rw [HV.out,if_pos h1]
  clear HV h1
  go_enter Tryz.func289,Tryz.ntmps289
  go_wp2_with fail
  go_ret
  exact ⟨by rw [HN.out];rfl,rfl⟩
 by_cases h2:s = [33,61]
 ·
  have e1:=ne2 h1
  have e2:=eq2 h2
  have HN:Hid (mkK s = 2):=by show _ = _;rw [HV.out,if_neg h1,if_pos h2]
  clear HV h1 h2
  go_enter Tryz.func289,Tryz.ntmps289
  go_wp2_with fail
  go_ret
  exact ⟨by rw [HN.out];rfl,rfl⟩
 by_cases h3:s = [94,61]
 ·
  have e1:=ne2 h1
  have e2:=ne2 h2
  have e3:=eq2 h3
  have HN:Hid (mkK s = 3):=by show _ = _;rw [HV.out,if_neg h1,if_neg h2,if_pos h3]
  clear HV h1 h2 h3
  go_enter Tryz.func289,Tryz.ntmps289
  go_wp2_with fail
  go_ret
  exact ⟨by rw [HN.out];rfl,rfl⟩
 by_cases h4:s = [42,61]
 ·
  have e1:=ne2 h1
  have e2:=ne2 h2
  have e3:=ne2 h3
  have e4:=eq2 h4
  have HN:Hid (mkK s = 4):=by show _ = _;rw [HV.out,if_neg h1,if_neg h2,if_neg h3,if_pos h4]
  clear HV h1 h2 h3 h4
  go_enter Tryz.func289,Tryz.ntmps289
  go_wp2_with fail
  go_ret
  exact ⟨by rw [HN.out];rfl,rfl⟩
 have e1:=ne2 h1
 have e2:=ne2 h2
 have e3:=ne2 h3
 have e4:=ne2 h4
 have HN:Hid (mkK s = 0):=by show _ = _;rw [HV.out,if_neg h1,if_neg h2,if_neg h3,if_neg h4]
 clear HV h1 h2 h3 h4
 go_enter Tryz.func289,Tryz.ntmps289
 go_wp2_with fail
 go_ret
 exact ⟨by rw [HN.out];rfl,rfl⟩
abbrev rA (r:Rl):Array Value:=#[.int .i64 r.act,tx r.frm.name,.int .i64 r.frm.kind,tx r.frm.text,tx r.tgt,tx r.txt]
theorem rz57:(Tryz.prog.info? 57).map (·.size) = some 3:=by kernel_rfl
theorem rlOf_eq (t0 t1 t2 t3 t4 t5:Str):rlOf [t0,t1,t2,t3,t4,t5] =
 (if t0 = [107,101,101,112] then ⟨1,⟨t1,mkK t2,t3⟩,[],[]⟩ else if t0 = [100,114,111,112] then ⟨2,⟨t1,mkK t2,t3⟩,[],[]⟩
 else if t0 = [114,101,112,108,97,99,101] then ⟨3,⟨t1,mkK t2,t3⟩,t4,t5⟩ else if t0 = [108,97,98,101,108,100,114,111,112] then ⟨4,⟨[],0,t1⟩,[],[]⟩
 else ⟨0,⟨[],0,[]⟩,[],[]⟩:Rl):=rfl
set_option maxRecDepth 20000 in
theorem relOf_any (t0 t1 t2 t3 t4 t5:Str) (w:World):Calls Tryz.prog 241 #[.agg #[tx t0,tx t1,tx t2,tx t3,tx t4,tx t5]] w fun e w'=>e = .returned (.agg (rA (rlOf [t0,t1,t2,t3,t4,t5]))) ∧ Below w.heap.size w w':=by
 have hk:=mkK_any t2
 have HV:=rlOf_eq t0 t1 t2 t3 t4 t5
 have HV:Hid _:=HV
 have qa:=zac w (.cells #[tx t0,tx t1,tx t2,tx t3,tx t4,tx t5] 235)
 have Ba:=bal (Below.refl w.heap.size w) (.cells #[tx t0,tx t1,tx t2,tx t3,tx t4,tx t5] 235)
 have qb:=zac (w.alloc (.cells #[tx t0,tx t1,tx t2,tx t3,tx t4,tx t5] 235)) (.cells #[.int .i64 0,.string ⟨#[]⟩,.int .i64 0,.string ⟨#[]⟩,.string ⟨#[]⟩,.string ⟨#[]⟩] 59)
 have Bb:=Below.chain Ba (bal (Below.refl (w.alloc (.cells #[tx t0,tx t1,tx t2,tx t3,tx t4,tx t5] 235)).heap.size (w.alloc (.cells #[tx t0,tx t1,tx t2,tx t3,tx t4,tx t5] 235))) (.cells #[.int .i64 0,.string ⟨#[]⟩,.int .i64 0,.string ⟨#[]⟩,.string ⟨#[]⟩,.string ⟨#[]⟩] 59))
 have qa:=zat qa (.cells #[.int .i64 0,.string ⟨#[]⟩,.int .i64 0,.string ⟨#[]⟩,.string ⟨#[]⟩,.string ⟨#[]⟩] 59)
 have zs:(w.alloc (.cells #[tx t0,tx t1,tx t2,tx t3,tx t4,tx t5] 235)).heap.size = w.heap.size + 1:=by simp
 rw [zs] at qb
 go_enter Tryz.func241,Tryz.ntmps241
 go_upto_region 1 with fail
 generalize (w.alloc (.cells #[tx t0,tx t1,tx t2,tx t3,tx t4,tx t5] 235)).alloc (.cells #[.int .i64 0,.string ⟨#[]⟩,.int .i64 0,.string ⟨#[]⟩,.string ⟨#[]⟩,.string ⟨#[]⟩] 59) = w0 at *
 have qa1:=zab (zag w0) qa
 have qb1:=zab (zag w0) qb
 have B1:=Below.chain Bb (zag w0)
 have hz9:w0.drew.heap.size = w0.heap.size:=rfl
 have z0:=zah qb
 go_cut [3] from 4 (fun s3 W=>s3 = .pointer (some ⟨w0.heap.size,0,none⟩) ∧ W.heap[w.heap.size]? = some (.cells #[tx t0,tx t1,tx t2,tx t3,tx t4,tx t5] 235) ∧ W.heap[w.heap.size + 1]? = some (.cells #[.int .i64 0,.string ⟨#[]⟩,.int .i64 0,.string ⟨#[]⟩,.string ⟨#[]⟩,.string ⟨#[]⟩] 59) ∧ W.heap[w0.heap.size]? = some (.cells #[tx t1,.int .i64 (mkK t2),tx t3] 57) ∧ Below w.heap.size w W)
 case first=>
  refine wp_region_noPanic ?_
  refine wp_region_held_drew (S:=fun W=>W.heap[w.heap.size]? = some (.cells #[tx t0,tx t1,tx t2,tx t3,tx t4,tx t5] 235)) (by kernel_rfl) ?_ (fun _=>?_)
  ·
   exact qa1
  generalize w0.drew = wd at *
  have z1:=zah qb1
  refine tk 0 4 (.pointer (some ⟨w.heap.size,1,none⟩)) rfl (fun W hSw=>by go_simp) qa1 ?_
  simp only [Act.put,pB,pC,pD]
  refine tk 1 5 (tx t1) rfl (fun W hSw=>by (have c0:=(zaa hSw 1).trans rfl;go_simp)) qa1 ?_
  simp only [Act.put,pB,pC,pD]
  refine tk 2 6 (.pointer (some ⟨w.heap.size,2,none⟩)) rfl (fun W hSw=>by go_simp) qa1 ?_
  simp only [Act.put,pB,pC,pD]
  refine tk 3 7 (tx t2) rfl (fun W hSw=>by (have c0:=(zaa hSw 2).trans rfl;go_simp)) qa1 ?_
  simp only [Act.put,pB,pC,pD]
  refine tk 5 9 (.pointer (some ⟨w.heap.size,3,none⟩)) rfl (fun W hSw=>by go_simp) qa1 ?_
  simp only [Act.put,pB,pC,pD]
  refine tk 6 10 (tx t3) rfl (fun W hSw=>by (have c0:=(zaa hSw 3).trans rfl;go_simp)) qa1 ?_
  simp only [Act.put,pB,pC,pD]
  refine wpAnyH_ready (rs:=[4,8]) (by kernel_rfl) (by simp) ?_
  refine AllReadyH.cons rfl (fun K hK=>?_) (AllReadyH.cons rfl (fun K hK=>?_) AllReadyH.nil)
  ·
   go_simp
   refine (hk _).mono ?_
   rintro e wk ⟨rfl,rfl⟩
   refine hK.out _ _ ?_ (fun _=>?_)
   ·
    exact qa1
   clear hK K
   refine tk 7 11 (.agg #[tx t1,.int .i64 (mkK t2),tx t3]) rfl (fun W hSw=>by go_simp) qa1 ?_
   simp only [Act.put,pB,pC,pD]
   refine wpAnyH_ready (rs:=[8]) (by kernel_rfl) (by simp) ?_
   refine aR rfl fun K hK=>?_
   have n2:=zac wd (.cells #[.string ⟨#[]⟩,.int .i64 0,.string ⟨#[]⟩] 57)
   have B2:=bal (Below.refl wd.heap.size wd) (.cells #[.string ⟨#[]⟩,.int .i64 0,.string ⟨#[]⟩] 57)
   have qa2:=zab B2 qa1
   have qb2:=zab B2 qb1
   have B2':=Below.chain B1 B2
   go_simp
   generalize wd.alloc (.cells #[.string ⟨#[]⟩,.int .i64 0,.string ⟨#[]⟩] 57) = w2 at *
   refine hK.out _ _ ?_ (fun _=>?_)
   ·
    exact qa2
   clear hK K
   refine wpAnyH_ready (rs:=[9]) (by kernel_rfl) (by simp) ?_
   refine aR rfl fun K hK=>?_
   refine zbw 57 _ _ none rfl rfl (by rfl) w0.heap.size #[tx t1,.int .i64 (mkK t2),tx t3] rfl rfl _ 57 (by rw [← hz9];exact n2) 3 rz57 rfl ⟨rfl,rfl⟩ ?_
   intro w3 n3 o3 z3
   have qa3:=o3.heap qa2 (by simp;omega)
   have qb3:=o3.heap qb2 (by simp;omega)
   have B3:=((Off.of B2' []).trans o3 (by simp;omega)).below (by simp)
   refine hK.out _ _ ?_ (fun _=>?_)
   ·
    exact qa3
   clear hK K
   refine wpAnyH_done (by kernel_rfl) ?_ _
   refine NoPanic.normal ?_
   dsimp only [Act.put]
   go_wp2_with fail
   go_meet
   case rel=>exact ⟨rfl,qa3,qb3,n3,B3⟩
  have n2:=zac wd (.cells #[.string ⟨#[]⟩,.int .i64 0,.string ⟨#[]⟩] 57)
  have B2:=bal (Below.refl wd.heap.size wd) (.cells #[.string ⟨#[]⟩,.int .i64 0,.string ⟨#[]⟩] 57)
  have qa2:=zab B2 qa1
  have qb2:=zab B2 qb1
  have B2':=Below.chain B1 B2
  go_simp
  generalize wd.alloc (.cells #[.string ⟨#[]⟩,.int .i64 0,.string ⟨#[]⟩] 57) = w2 at *
  refine hK.out _ _ ?_ (fun _=>?_)
  ·
   exact qa2
  clear hK K
  refine wpAnyH_ready (rs:=[4]) (by kernel_rfl) (by simp) ?_
  refine aR rfl fun K hK=>?_
  go_simp
  refine (hk _).mono ?_
  rintro e wk ⟨rfl,rfl⟩
  refine hK.out _ _ ?_ (fun _=>?_)
  ·
   exact qa2
  clear hK K
  refine tk 7 11 (.agg #[tx t1,.int .i64 (mkK t2),tx t3]) rfl (fun W hSw=>by go_simp) qa2 ?_
  simp only [Act.put,pB,pC,pD]
  refine wpAnyH_ready (rs:=[9]) (by kernel_rfl) (by simp) ?_
  refine aR rfl fun K hK=>?_
  refine zbw 57 _ _ none rfl rfl (by rfl) w0.heap.size #[tx t1,.int .i64 (mkK t2),tx t3] rfl rfl _ 57 (by rw [← hz9];exact n2) 3 rz57 rfl ⟨rfl,rfl⟩ ?_
  intro w3 n3 o3 z3
  have qa3:=o3.heap qa2 (by simp;omega)
  have qb3:=o3.heap qb2 (by simp;omega)
  have B3:=((Off.of B2' []).trans o3 (by simp;omega)).below (by simp)
  refine hK.out _ _ ?_ (fun _=>?_)
  ·
   exact qa3
  clear hK K
  refine wpAnyH_done (by kernel_rfl) ?_ _
  refine NoPanic.normal ?_
  dsimp only [Act.put]
  go_wp2_with fail
  go_meet
  case rel=>exact ⟨rfl,qa3,qb3,n3,B3⟩
 obtain ⟨rfl,qa,qb,n3,B3⟩:=hcut
 have c0:=(zaa qa 0).trans rfl
 have c1:=(zaa qa 1).trans rfl
 have c4:=(zaa qa 4).trans rfl
 have c5:=(zaa qa 5).trans rfl
 have hne:=zah qb
 by_cases h0:t0 = [107,101,101,112]
 ·
  have e0:=eq2 h0
  have HN:Hid (rlOf [t0,t1,t2,t3,t4,t5] = (⟨1,⟨t1,mkK t2,t3⟩,[],[]⟩:Rl)):=by show _ = _;rw [HV.out,if_pos h0]
  clear HV h0
  go_wp2_with (first | (refine zad rfl 59 _ _ rfl (w.heap.size + 1) (rA ⟨1,⟨t1,mkK t2,t3⟩,[],[]⟩) rfl rfl _ 59 qb 6 rz59 rfl ⟨rfl,rfl⟩ ?_;intro w9 q9 o9 z9) | (refine zaj rfl 57 _ rfl w0.heap.size #[tx t1,.int .i64 (mkK t2),tx t3] 57 rfl n3 _ Tryz.underlying57 rfl 3 rz57 rfl ?_))
  exact bodyPost_ret (zak Tryz.results241 _ _ (w.heap.size + 1) 59 (rA ⟨1,⟨t1,mkK t2,t3⟩,[],[]⟩) _ rfl q9 Tryz.underlying59 rfl 6 rz59 rfl) rfl ⟨by rw [HN.out],((Off.of B3 []).trans o9 (by simp)).below (by simp)⟩
 by_cases h1:t0 = [100,114,111,112]
 ·
  have e0:=ne2 h0
  have e1:=eq2 h1
  have HN:Hid (rlOf [t0,t1,t2,t3,t4,t5] = (⟨2,⟨t1,mkK t2,t3⟩,[],[]⟩:Rl)):=by show _ = _;rw [HV.out,if_neg h0,if_pos h1]
  clear HV h0 h1
  go_wp2_with (first | (refine zad rfl 59 _ _ rfl (w.heap.size + 1) (rA ⟨2,⟨t1,mkK t2,t3⟩,[],[]⟩) rfl rfl _ 59 qb 6 rz59 rfl ⟨rfl,rfl⟩ ?_;intro w9 q9 o9 z9) | (refine zaj rfl 57 _ rfl w0.heap.size #[tx t1,.int .i64 (mkK t2),tx t3] 57 rfl n3 _ Tryz.underlying57 rfl 3 rz57 rfl ?_))
  exact bodyPost_ret (zak Tryz.results241 _ _ (w.heap.size + 1) 59 (rA ⟨2,⟨t1,mkK t2,t3⟩,[],[]⟩) _ rfl q9 Tryz.underlying59 rfl 6 rz59 rfl) rfl ⟨by rw [HN.out],((Off.of B3 []).trans o9 (by simp)).below (by simp)⟩
 by_cases h2:t0 = [114,101,112,108,97,99,101]
 ·
  have e0:=ne2 h0
  have e1:=ne2 h1
  have e2:=eq2 h2
  have HN:Hid (rlOf [t0,t1,t2,t3,t4,t5] = (⟨3,⟨t1,mkK t2,t3⟩,t4,t5⟩:Rl)):=by show _ = _;rw [HV.out,if_neg h0,if_neg h1,if_pos h2]
  clear HV h0 h1 h2
  go_wp2_with (first | (refine zad rfl 59 _ _ rfl (w.heap.size + 1) (rA ⟨3,⟨t1,mkK t2,t3⟩,t4,t5⟩) rfl rfl _ 59 qb 6 rz59 rfl ⟨rfl,rfl⟩ ?_;intro w9 q9 o9 z9) | (refine zaj rfl 57 _ rfl w0.heap.size #[tx t1,.int .i64 (mkK t2),tx t3] 57 rfl n3 _ Tryz.underlying57 rfl 3 rz57 rfl ?_))
  exact bodyPost_ret (zak Tryz.results241 _ _ (w.heap.size + 1) 59 (rA ⟨3,⟨t1,mkK t2,t3⟩,t4,t5⟩) _ rfl q9 Tryz.underlying59 rfl 6 rz59 rfl) rfl ⟨by rw [HN.out],((Off.of B3 []).trans o9 (by simp)).below (by simp)⟩
 by_cases h3:t0 = [108,97,98,101,108,100,114,111,112]
 ·
  have e0:=ne2 h0
  have e1:=ne2 h1
  have e2:=ne2 h2
  have e3:=eq2 h3
  have HN:Hid (rlOf [t0,t1,t2,t3,t4,t5] = (⟨4,⟨[],0,t1⟩,[],[]⟩:Rl)):=by show _ = _;rw [HV.out,if_neg h0,if_neg h1,if_neg h2,if_pos h3]
  clear HV h0 h1 h2 h3
  go_wp2_with (first | (refine zad rfl 59 _ _ rfl (w.heap.size + 1) (rA ⟨4,⟨[],0,t1⟩,[],[]⟩) rfl rfl _ 59 qb 6 rz59 rfl ⟨rfl,rfl⟩ ?_;intro w9 q9 o9 z9) | (refine zaj rfl 57 _ rfl w0.heap.size #[tx t1,.int .i64 (mkK t2),tx t3] 57 rfl n3 _ Tryz.underlying57 rfl 3 rz57 rfl ?_))
  exact bodyPost_ret (zak Tryz.results241 _ _ (w.heap.size + 1) 59 (rA ⟨4,⟨[],0,t1⟩,[],[]⟩) _ rfl q9 Tryz.underlying59 rfl 6 rz59 rfl) rfl ⟨by rw [HN.out],((Off.of B3 []).trans o9 (by simp)).below (by simp)⟩
 have e0:=ne2 h0
 have e1:=ne2 h1
 have e2:=ne2 h2
 have e3:=ne2 h3
 have HN:Hid (rlOf [t0,t1,t2,t3,t4,t5] = (⟨0,⟨[],0,[]⟩,[],[]⟩:Rl)):=by show _ = _;rw [HV.out,if_neg h0,if_neg h1,if_neg h2,if_neg h3]
 clear HV h0 h1 h2 h3
 go_wp2_with (first | (refine zad rfl 59 _ _ rfl (w.heap.size + 1) (rA ⟨0,⟨[],0,[]⟩,[],[]⟩) rfl rfl _ 59 qb 6 rz59 rfl ⟨rfl,rfl⟩ ?_;intro w9 q9 o9 z9) | (refine zaj rfl 57 _ rfl w0.heap.size #[tx t1,.int .i64 (mkK t2),tx t3] 57 rfl n3 _ Tryz.underlying57 rfl 3 rz57 rfl ?_))
 exact bodyPost_ret (zak Tryz.results241 _ _ (w.heap.size + 1) 59 (rA ⟨0,⟨[],0,[]⟩,[],[]⟩) _ rfl q9 Tryz.underlying59 rfl 6 rz59 rfl) rfl ⟨by rw [HN.out],((Off.of B3 []).trans o9 (by simp)).below (by simp)⟩
/-! ### The texts of the first signs -/
def tA (T:List Str) (k:Nat):Array Value:=#[tx (if 0 < k then T.getD 0 [] else []),tx (if 1 < k then T.getD 1 [] else []),tx (if 2 < k then T.getD 2 [] else []),tx (if 3 < k then T.getD 3 [] else []),tx (if 4 < k then T.getD 4 [] else []),tx (if 5 < k then T.getD 5 [] else [])]
theorem tA_set (T:List Str) (k:Nat) (h:k < 6):(tA T k).setIfInBounds k (tx (T.getD k [])) = tA T (k + 1):=by
 match k,h with
 | 0,_=>rfl
 | 1,_=>rfl
 | 2,_=>rfl
 | 3,_=>rfl
 | 4,_=>rfl
 | 5,_=>rfl
theorem tA_end (T:List Str) (k:Nat) (h:6 ≤ k ∨ T.length ≤ k):tA T k = #[tx (T.getD 0 []),tx (T.getD 1 []),tx (T.getD 2 []),tx (T.getD 3 []),tx (T.getD 4 []),tx (T.getD 5 [])]:=by
 have key:∀ i,i < 6 → (if i < k then T.getD i [] else []) = T.getD i []:=fun i hi=>by
  by_cases hk:i < k
  ·
   rw [if_pos hk]
  rw [if_neg hk]
  have hl:T.length ≤ i:=by omega
  simp [List.getD,List.getElem?_eq_none hl]
 unfold tA
 rw [key 0 (by omega),key 1 (by omega),key 2 (by omega),key 3 (by omega),key 4 (by omega),key 5 (by omega)]
theorem rowT (T:List Str) (k:Nat):Row 6 (tA T k):=⟨rfl,rfl⟩
theorem texts_any (ao:Option Addr) (n cap:Nat) (l:List Tk) (w:World) (hn:n ≤ 1000000) (hts:Ts w ao n l):Calls Tryz.prog 242 #[.slice ao n cap] w fun e w'=>e = .returned (.agg #[tx ((l.map (·.t)).getD 0 []),tx ((l.map (·.t)).getD 1 []),tx ((l.map (·.t)).getD 2 []),tx ((l.map (·.t)).getD 3 []),tx ((l.map (·.t)).getD 4 []),tx ((l.map (·.t)).getD 5 [])]) ∧ Below w.heap.size w w':=by
 have HL:Hid (l.length = n):=hts.1
 have HT:Hid (Ts w ao n l):=hts
 have qa:=zac w (.cells (tA (l.map (·.t)) 0) 235)
 have Ba:=bal (Below.refl w.heap.size w) (.cells (tA (l.map (·.t)) 0) 235)
 have qb:=zac (w.alloc (.cells (tA (l.map (·.t)) 0) 235)) (.cells (tA (l.map (·.t)) 0) 235)
 have Bb:=Below.chain Ba (bal (Below.refl _ (w.alloc (.cells (tA (l.map (·.t)) 0) 235))) (.cells (tA (l.map (·.t)) 0) 235))
 have qa:=zat qa (.cells (tA (l.map (·.t)) 0) 235)
 have zs:(w.alloc (.cells (tA (l.map (·.t)) 0) 235)).heap.size = w.heap.size + 1:=by simp
 rw [zs] at qb
 clear hts
 have hz:∀ T:List Str,tA T 0 = #[.string ⟨#[]⟩,.string ⟨#[]⟩,.string ⟨#[]⟩,.string ⟨#[]⟩,.string ⟨#[]⟩,.string ⟨#[]⟩]:=fun _=>rfl
 rw [hz] at *
 go_enter Tryz.func242,Tryz.ntmps242
 go_wp2_with (refine zad rfl 235 _ _ rfl (w.heap.size + 1) (tA (l.map (·.t)) 0) rfl rfl _ 235 qb 6 zku rfl (rowT _ _) ?_;intro w2 q2 o2 z2)
 have B2:=((Off.of Bb []).trans o2 (by simp)).below (by simp)
 have p2:=o2.heap qa (by simp)
 go_loopw [4] (fun i wr=>∃ k:Nat,k ≤ n ∧ k ≤ 6 ∧ i = .int .i64 k ∧ Below w.heap.size w wr ∧ wr.heap[w.heap.size]? = some (.cells #[.string ⟨#[]⟩,.string ⟨#[]⟩,.string ⟨#[]⟩,.string ⟨#[]⟩,.string ⟨#[]⟩,.string ⟨#[]⟩] 235) ∧ wr.heap[w.heap.size + 1]? = some (.cells (tA (l.map (·.t)) k) 235)) (fun i _=>6 - (intOf i).toNat)
 case atStart=>exact ⟨0,by omega,by omega,rfl,B2,p2,q2⟩
 case round=>
  obtain ⟨k,hk,hk6,rfl,B,pr,qr⟩:=hrel
  by_cases hlt:k < n
  ·
   have hlt':(k:Int) < n:=by omega
   by_cases h6:k < 6
   ·
    have h6':(k:Int) < 6:=by omega
    obtain ⟨b,off,ea,_⟩:=HT.out.2 (by omega)
    subst ea
    have hc:=(Ts.at (HT.out.later B) k hlt)
    obtain ⟨_,_,hc2,_⟩:=hc
    have HS:=tA_set (l.map (·.t)) k h6
    have HG:(l.map (·.t)).getD k [] = (l.getD k tk0).t:=by
     have:=HL.out
     simp [List.getD,List.getElem?_eq_getElem (show k < l.length by omega)]
    rw [HG] at HS
    have HS:Hid _:=HS
    clear HG
    go_wp2_with (refine zdt rfl 9 _ _ rfl (w.heap.size + 1) k (tx (l.getD k tk0).t) rfl rfl (tA (l.map (·.t)) k) 235 qr (by simpa [tA] using h6) inf9 rfl (tA (l.map (·.t)) (k + 1)) HS.out ?_;intro w3 q3 o3 z3)
    go_roundw
    case rel=>exact ⟨k + 1,by omega,by omega,by go_num,((Off.of B []).trans o3 (by simp)).below (by simp),o3.heap pr (by simp),q3⟩
    case measure=>simp [intOf];omega
   have h6':¬ (k:Int) < 6:=by omega
   have HE:Hid _:=tA_end (l.map (·.t)) k (Or.inl (by omega))
   go_wp2_with (first | (refine zad rfl 235 _ _ rfl w.heap.size (tA (l.map (·.t)) k) rfl rfl _ 235 pr 6 zku rfl (rowT _ _) ?_;intro w9 q9 o9 z9) | (refine zaj rfl 235 _ rfl (w.heap.size + 1) (tA (l.map (·.t)) k) 235 rfl qr _ Tryz.underlying235 rfl 6 zku rfl ?_))
   exact bodyPost_ret (zak Tryz.results242 _ _ w.heap.size 235 (tA (l.map (·.t)) k) _ rfl q9 Tryz.underlying235 rfl 6 zku rfl) rfl ⟨by rw [HE.out];simp,((Off.of B []).trans o9 (by simp)).below (by simp)⟩
  have hlt':¬ (k:Int) < n:=by omega
  have HE:Hid _:=tA_end (l.map (·.t)) k (Or.inr (by have:=HL.out;simp;omega))
  go_wp2_with (first | (refine zad rfl 235 _ _ rfl w.heap.size (tA (l.map (·.t)) k) rfl rfl _ 235 pr 6 zku rfl (rowT _ _) ?_;intro w9 q9 o9 z9) | (refine zaj rfl 235 _ rfl (w.heap.size + 1) (tA (l.map (·.t)) k) 235 rfl qr _ Tryz.underlying235 rfl 6 zku rfl ?_))
  exact bodyPost_ret (zak Tryz.results242 _ _ w.heap.size 235 (tA (l.map (·.t)) k) _ rfl q9 Tryz.underlying235 rfl 6 zku rfl) rfl ⟨by rw [HE.out];simp,((Off.of B []).trans o9 (by simp)).below (by simp)⟩
end Go.Proofs.YtjlaihekocjggaaGreatDoor
