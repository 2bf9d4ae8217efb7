/- The law RulesBounds: so many groups, rules of a group, relabel rules; one more is refused at its line. -/
import Derived.Test.YtjlaihekocjggaaGreatDoorKRPz
set_option maxHeartbeats 16000000
namespace Go.Proofs.YtjlaihekocjggaaGreatDoor
open Go.RowKit
theorem conv_one (W:World) (R:Nat) (h:R < 10):(convert 55 9 (.slice (some ⟨W.heap.size,0,none⟩) 1 1)).run Tryz.prog (W.alloc (.cells #[.int .u8 (48 + (R:Int))] 5)) = .ok (.string ⟨#[UInt8.ofNat (48 + R)]⟩) (W.alloc (.cells #[.int .u8 (48 + (R:Int))] 5)):=by
 refine run_convert_bytes_back (P:=Tryz.prog) (W.alloc (.cells #[.int .u8 (48 + (R:Int))] 5)) 55 9 5 ⟨W.heap.size,0,none⟩ 1 [UInt8.ofNat (48 + R)] Tryz.underlying55 Tryz.underlying5 Tryz.underlying9 (fun j hj=>?_)
 obtain rfl:j = 0:=by simpa using hj
 rw [Lib.add_plain,World.cell?_alloc_new]
 have:(UInt8.ofNat (48 + R)).toNat = 48 + R:=by
  rw [UInt8.toNat_ofNat']
  omega
 show some (Value.int .u8 (48 + (R:Int))) = some (.int .u8 ((UInt8.ofNat (48 + R)).toNat:Int))
 rw [this]
 congr 2
def bD (j:Nat):Str:=if j < 10 then [UInt8.ofNat (48 + j)] else [49,UInt8.ofNat (48 + (j - 10))]
theorem bD_lo {j:Nat} (h:j < 10):bD j = [UInt8.ofNat (48 + j)]:=if_pos h
theorem bD_hi {j:Nat} (h:¬ j < 10):bD j = [49,UInt8.ofNat (48 + (j - 10))]:=if_neg h
theorem bD_len (j:Nat):(bD j).length ≤ 2:=by
 unfold bD
 split <;> simp
set_option maxRecDepth 20000 in
theorem dig12 (u:Nat) (w:World) (hu:u < 12):Calls Tryz.prog 33 #[.int .u64 u] w fun e w'=>e = .returned (tx (bD u)) ∧ Below w.heap.size w w':=by
 have hap:=zbc
 have HU:Hid (u < 12):=hu
 go_enter Tryz.func33,Tryz.ntmps33
 go_wp2_with fail
 go_loopw [0,3] (fun a b wr=>∃ (v:Nat) (t:List UInt8),a = .int .u64 v ∧ b = .string ⟨t.toArray⟩ ∧ Hid (bD v ++ t = bD u) ∧ v ≤ u ∧ t.length ≤ 20 ∧ Below w.heap.size w wr) (fun a _ _=>(intOf a).toNat + 1)
 case atStart=>exact ⟨u,[],rfl,rfl,by show _ = _;simp,Nat.le_refl _,by simp,Below.refl _ _⟩
 case round=>
  obtain ⟨v,t,rfl,rfl,hd,hv,hlt,hbw⟩:=hrel
  obtain ⟨R,hR⟩:∃ R,v % 10 = R:=⟨_,rfl⟩
  obtain ⟨Q,hQ⟩:∃ Q,v / 10 = Q:=⟨_,rfl⟩
  have e1:(v:Int) % 10 = (R:Int):=by omega
  have e2:(v:Int) / 10 = (Q:Int):=by omega
  have hR10:R < 10:=by omega
  have hcv:=conv_one wr R hR10
  have hQm:Q < 1844674407370955162:=by omega
  obtain ⟨c,hc⟩:∃ c,UInt8.ofNat (48 + R) = c:=⟨_,rfl⟩
  rw [hc] at hcv
  by_cases hq:Q = 0
  ·
   have HD:Hid (bD u = c :: t):=by
    show _ = _
    have:v = R:=by omega
    rw [← hd.out,this,bD_lo hR10,hc]
    rfl
   have hq':(Q:Int) = 0:=by omega
   clear hR hQ hv hc hu
   go_wp2_with fail
   go_ret
   exact ⟨by rw [HD.out];rfl,bal hbw _⟩
  ·
   have hQ1:Q = 1:=by omega
   have HDD:Hid (bD Q ++ (c :: t) = bD u):=by
    show _ = _
    have hv2:v - 10 = R:=by omega
    rw [← hd.out,bD_hi (by omega:¬ v < 10),hQ1,hv2,hc]
    rfl
   have hq':¬ (Q:Int) = 0:=by omega
   have ht0:(c :: t).length ≤ 20:=by
    have h1:=congrArg List.length hd.out
    have h2:=bD_len u
    rw [List.length_append,bD_hi (by omega:¬ v < 10)] at h1
    simp only [List.length_cons,List.length_nil] at h1 ⊢
    omega
   have HQ:Hid (Q ≤ u ∧ Q < v ∧ (c :: t).length ≤ 20):=⟨by omega,by omega,ht0⟩
   clear hR hQ hv hc hu hQ1 ht0
   go_wp2_with fail
   go_roundw
   case rel=>exact ⟨Q,c :: t,rfl,rfl,HDD,HQ.out.1,HQ.out.2.2,bal hbw _⟩
   case measure=>have:=HQ.out.2.1;simp [intOf];omega
def bM (c:Nat):Nat:=if c = 0 then 6 else if c = 1 then 3 else 8
def bL (c i:Nat):Str:=if c = 0 then [107,101,101,112,32,97,32,61,32,34,98,34,10] else if c = 1 then [103,114,111,117,112,32,103] ++ bD i ++ [32,101,118,101,114,121,32,49,10] else [114,101,99,111,114,100,32,114] ++ bD i ++ [32,61,32,49,10]
def bT (c:Nat):Nat → Str
 | 0=>if c = 2 then [103,114,111,117,112,32,103,32,101,118,101,114,121,32,49,10] else []
 | n + 1=>bT c n ++ bL c n
theorem bL_len (c i:Nat):(bL c i).length ≤ 18:=by
 unfold bL
 have:=bD_len i
 split
 ·
  simp
 ·
  split <;> simp <;> omega
theorem bT_len (c:Nat):∀ n,(bT c n).length ≤ 16 + 18 * n
 | 0=>by unfold bT;split <;> simp
 | n + 1=>by
  have h1:=bT_len c n
  have h2:=bL_len c n
  rw [bT,List.length_append]
  omega
def bA (c j:Nat):Nat:=if bM c < j then (bT c (bM c)).length else 0
theorem bA_ne {c j:Nat} (h:j ≠ bM c):bA c (j + 1) = bA c j:=by
 unfold bA
 by_cases h1:bM c < j
 ·
  rw [if_pos h1,if_pos (by omega)]
 ·
  rw [if_neg h1,if_neg (by omega)]
theorem bA_eq (c:Nat):bA c (bM c + 1) = (bT c (bM c)).length:=if_pos (by omega)
def bF (c m:Nat):Bool:=if bM c < m then decide ((pX (bT c m)).2 = (((bA c m:Nat):Int),32)) && decide ((pX (bT c m)).1.gs.length = 0) else decide ((pX (bT c m)).2 = (0,0)) && decide (c = 0 → m ≤ (pX (bT c m)).1.rl.length) && decide (c = 1 → m ≤ (pX (bT c m)).1.gs.length)
theorem bF_all:((List.range 3).all fun c=>(List.range 12).all fun k=>bF c (k + 1)) = true:=by kernel_rfl
theorem bF_of {c k:Nat} (hc:c < 3) (hk:k < 12):bF c (k + 1) = true:=List.all_eq_true.1 (List.all_eq_true.1 bF_all c (List.mem_range.2 hc)) k (List.mem_range.2 hk)
theorem b_many {c k:Nat} (hc:c < 3) (hk:k < 12) (h:bM c < k + 1):(pF (bT c (k + 1))).2 = (((bA c (k + 1):Nat):Int),32) ∧ (pF (bT c (k + 1))).1.gs.length = 0:=by
 have:=bF_of hc hk
 rw [bF,if_pos h] at this
 simp only [Bool.and_eq_true,decide_eq_true_eq,pX_eq] at this
 exact this
theorem b_good {c k:Nat} (hc:c < 3) (hk:k < 12) (h:¬ bM c < k + 1):(pF (bT c (k + 1))).2 = (0,0) ∧ (c = 0 → k + 1 ≤ (pF (bT c (k + 1))).1.rl.length) ∧ (c = 1 → k + 1 ≤ (pF (bT c (k + 1))).1.gs.length):=by
 have:=bF_of hc hk
 rw [bF,if_neg h] at this
 simp only [Bool.and_eq_true,decide_eq_true_eq,pX_eq] at this
 exact ⟨this.1.1,this.1.2,this.2⟩
theorem CfP.lens {P:Nat → Prop} {w:World} {c:Cf} {cs:Array Value} (h:CfP P w c cs):∃ al cl ag cg,cs = #[.slice al c.rl.length cl,.slice ag c.gs.length cg]:=by
 obtain ⟨vr,vg,rfl,h1,h2⟩:=h
 obtain ⟨al,cl,rfl,_⟩:=zkx h1
 obtain ⟨ag,cg,css,rfl,_⟩:=h2.view
 exact ⟨al,cl,ag,cg,rfl⟩
theorem jx0 (W:World):(Instr.index 49 (.agg #[.int .i64 6,.int .i64 3,.int .i64 8]) (.int .u8 0)).run Tryz.prog W = .ok (.int .i64 6) W:=by kernel_rfl
theorem jx1 (W:World):(Instr.index 49 (.agg #[.int .i64 6,.int .i64 3,.int .i64 8]) (.int .u8 1)).run Tryz.prog W = .ok (.int .i64 3) W:=by kernel_rfl
theorem jx2 (W:World):(Instr.index 49 (.agg #[.int .i64 6,.int .i64 3,.int .i64 8]) (.int .u8 2)).run Tryz.prog W = .ok (.int .i64 8) W:=by kernel_rfl
theorem jy0 (W:World) (a b c:Value):(Instr.index 52 (.agg #[a,b,c]) (.int .u8 0)).run Tryz.prog W = .ok a W:=by kernel_rfl
theorem jy1 (W:World) (a b c:Value):(Instr.index 52 (.agg #[a,b,c]) (.int .u8 1)).run Tryz.prog W = .ok b W:=by kernel_rfl
theorem jy2 (W:World) (a b c:Value):(Instr.index 52 (.agg #[a,b,c]) (.int .u8 2)).run Tryz.prog W = .ok c W:=by kernel_rfl
theorem jz0 (W:World) (a b c:Value):(Instr.index 49 (.agg #[a,b,c]) (.int .u8 0)).run Tryz.prog W = .ok a W:=by kernel_rfl
theorem jz1 (W:World) (a b c:Value):(Instr.index 49 (.agg #[a,b,c]) (.int .u8 1)).run Tryz.prog W = .ok b W:=by kernel_rfl
theorem jz2 (W:World) (a b c:Value):(Instr.index 49 (.agg #[a,b,c]) (.int .u8 2)).run Tryz.prog W = .ok c W:=by kernel_rfl
end Go.Proofs.YtjlaihekocjggaaGreatDoor
