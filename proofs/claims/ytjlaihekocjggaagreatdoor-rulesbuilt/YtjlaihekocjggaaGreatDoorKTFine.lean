/- Texts that the others lean on. -/
import Derived.Test.YtjlaihekocjggaaGreatDoorKMS
import Derived.Test.YtjlaihekocjggaaGreatDoorKYClo
namespace Go.Proofs.YtjlaihekocjggaaGreatDoor.Tf
open Go.RowKit
def FT (t:Tk):Prop:=0 ≤ t.p ∧ t.t.length ≤ 1000000 ∧ -9223372036854775808 ≤ t.n ∧ t.n ≤ 9223372036854775807
theorem mo_ft {x:Mt} (h:MO FT x):x.name.length ≤ 1000000 ∧ x.text.length ≤ 1000000:=by
 rcases h with ⟨t,ht,_,rfl⟩ | ⟨a,b,c,ha,_,hc,_,_,_,_,rfl⟩
 ·
  exact ⟨by show nmL.length ≤ _;decide,ht.2.1⟩
 exact ⟨ha.2.1,hc.2.1⟩
theorem once_len {ns:List Str} (h:fewN ns = true):ns.length ≤ 8:=by
 unfold fewN at h
 rw [Bool.and_eq_true,decide_eq_true_eq] at h
 exact h.1
theorem go_ft {b c:Bool} {ns:List Str} (h:GO FT b c ns):ns.length ≤ 8 ∧ ∀ x ∈ ns,x.length ≤ 1000000:=by
 rcases h with ⟨_,_,rfl⟩ | ⟨_,hf,hn⟩
 ·
  exact ⟨by simp,fun x hx=>by simp at hx⟩
 refine ⟨once_len hf,fun x hx=>?_⟩
 obtain ⟨t,ht,_,rfl⟩:=hn x hx
 exact ht.2.1
theorem fine_ok {E:Int → Prop}:RdOK FT E (fun n e=>smB e = true ∧ sz e ≤ n):={
 num:=fun t ht _=>by
  unfold eNum
  rw [zfd,smBL,zko,szL]
  obtain ⟨_,h2,h3,h4⟩:=ht
  simp [h3,h4]
 sel:=fun p m r _ hm hl _=>by
  unfold eSel
  rw [zfd,smBL,zko,szL]
  have h1:m.all (fun x=>decide (x.name.length ≤ 1000000) && decide (x.text.length ≤ 1000000)) = true:=by
   rw [List.all_eq_true]
   intro x hx
   have:=mo_ft (hm x hx)
   simp [this.1,this.2]
  have h2:m.length ≤ 1000000:=by omega
  simp [h1,h2]
 call:=fun n t a ht _ _ _ ha=>by
  unfold eCall
  rw [zfd,smBL,smBL,zko,szL,szL,ha.1]
  simp [ht.2.1]
  omega
 agg:=fun n t b1 b2 ns a ht _ hg ha=>by
  unfold eAgg
  rw [zfd,smBL,smBL,zko,szL,szL,ha.1]
  obtain ⟨g1,g2⟩:=go_ft hg
  have h1:ns.all (fun x=>decide (x.length ≤ 1000000)) = true:=by
   rw [List.all_eq_true]
   intro x hx
   simp [g2 x hx]
  have h2:ns.length ≤ 1000000:=by omega
  simp [ht.2.1,h1,h2]
  omega
 bin:=fun n m t b3 b4 ns a b ht _ _ hg ha hb=>by
  unfold eBin
  rw [zfd,smBL,smBL,smBL,zko,szL,szL,szL,ha.1,hb.1]
  obtain ⟨g1,g2⟩:=go_ft hg
  have h1:ns.all (fun x=>decide (x.length ≤ 1000000)) = true:=by
   rw [List.all_eq_true]
   intro x hx
   simp [g2 x hx]
  have h2:ns.length ≤ 1000000:=by omega
  simp [ht.2.1,h1,h2]
  omega
 neg:=fun n t a ht ha=>by
  unfold eNeg
  rw [zfd,smBL,smBL,zko,szL,szL,ha.1]
  simp
  omega }
theorem okt_ft {y:Tk} {p:Int} (h:Okt y) (hp:0 ≤ p):FT (y.put p):=by
 rcases h with ⟨s,hs,rfl⟩ | ⟨v,h1,h2,rfl⟩ | ⟨n,h1,h2,rfl⟩ | ⟨s,h1,_,rfl⟩ | ⟨s,hs,rfl⟩
 ·
  have:=zcz hs
  exact ⟨hp,by show s.length ≤ _;omega,(by decide:(-9223372036854775808:Int) ≤ 0),(by decide:(0:Int) ≤ 9223372036854775807)⟩
 ·
  exact ⟨hp,by simp [Tk.put,tNum],by show _ ≤ v;omega,h2⟩
 ·
  exact ⟨hp,by simp [Tk.put,tDur],(by decide:(-9223372036854775808:Int) ≤ 0),(by decide:(0:Int) ≤ 9223372036854775807)⟩
 ·
  exact ⟨hp,by show s.length ≤ _;omega,(by decide:(-9223372036854775808:Int) ≤ 0),(by decide:(0:Int) ≤ 9223372036854775807)⟩
 have:=zfn hs
 exact ⟨hp,by show s.length ≤ _;omega,(by decide:(-9223372036854775808:Int) ≤ 0),(by decide:(0:Int) ≤ 9223372036854775807)⟩
theorem sc_toks {s:Str} {l:List Tk} (h:sc s = .inr l):l.length ≤ s.length ∧ ∀ x ∈ l,∃ y p,Okt y ∧ x = y.put p ∧ 0 ≤ p:=by
 unfold sc at h
 obtain ⟨g1,g2,_⟩:=(zdw s.length (lead s).length (lead s) (Nat.le_refl _) (zda s)).2 l h
 have:=zda s
 refine ⟨by omega,fun x hx=>?_⟩
 obtain ⟨y,p,h1,h2,h3,_⟩:=g2 x hx
 exact ⟨y,p,h1,h2,h3⟩
theorem scL_ft (s:Str):All FT (scL s):=by
 by_cases hb:600 < s.length
 ·
  rw [(zmp hb).2.2]
  intro t ht
  simp at ht
 rcases sc_cases (s:=s) (by omega) with ⟨p,_,_,_,e4⟩ | ⟨l,e1,_,_,e4⟩
 ·
  rw [e4]
  intro t ht
  simp at ht
 rw [e4]
 intro t ht
 rcases List.mem_append.1 ht with ht | ht
 ·
  obtain ⟨y,p,h1,rfl,h3⟩:=(sc_toks e1).2 t ht
  exact okt_ft h1 h3
 simp at ht
 subst ht
 exact ⟨by show (0:Int) ≤ (s.length:Nat);omega,by simp [tEnd],by show (-9223372036854775808:Int) ≤ 0;decide,by show (0:Int) ≤ 9223372036854775807;decide⟩
theorem ps_fine (s:Str):smB (psX s) = true ∧ sz (psX s) ≤ s.length + 1 ∧ 0 ≤ psA s:=by
 have h0:smB ex0 = true ∧ sz ex0 ≤ s.length + 1:=by
  unfold ex0
  rw [zfd,smBL,zko,szL]
  simp
 unfold psX psA
 by_cases he:scE s = 0
 ·
  rw [if_pos he,if_pos he]
  obtain ⟨r1,r2⟩:=rd_all (T:=FT) (E:=fun p=>0 ≤ p) (fun t ht=>ht.1) (by decide) fine_ok (scL_ft s)
  have hl:=(zeg s).1
  unfold rdX rdA
  cases hr:rdP (scL s) with
  | inl er=>exact ⟨h0.1,h0.2,(r1 er hr).1⟩
  | inr e=>
   obtain ⟨k,⟨a,b⟩,c⟩:=r2 e hr
   exact ⟨a,by show sz e ≤ _;omega,by show (0:Int) ≤ 0;decide⟩
 rw [if_neg he,if_neg he]
 exact ⟨h0.1,h0.2,(zeg s).2.2.1⟩
end Go.Proofs.YtjlaihekocjggaaGreatDoor.Tf
