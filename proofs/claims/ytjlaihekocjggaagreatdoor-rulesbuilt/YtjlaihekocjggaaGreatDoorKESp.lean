/- Texts that the others lean on. -/
import Derived.Test.YtjlaihekocjggaaGreatDoorKMA
namespace Go.Proofs.YtjlaihekocjggaaGreatDoor
/-! ### Parted at each sign -/
def spG (c:UInt8) (cur:Str):Str → List Str
 | []=>[cur]
 | x :: r=>if x = c then cur :: spG c [] r else spG c (cur ++ [x]) r
def sp (c:UInt8) (s:Str):List Str:=spG c [] s
theorem spG_hit (c:UInt8) (cur r:Str):spG c cur (c :: r) = cur :: spG c [] r:=by simp [spG]
theorem spG_miss {c x:UInt8} (h:x ≠ c) (cur r:Str):spG c cur (x :: r) = spG c (cur ++ [x]) r:=by simp [spG,h]
theorem zhw (c:UInt8):∀ (a cur r:Str),c ∉ a → spG c cur (a ++ r) = spG c (cur ++ a) r
 | [],cur,r,_=>by simp
 | x :: a,cur,r,h=>by
  have hx:x ≠ c:=fun e=>h (by simp [e])
  rw [List.cons_append,spG_miss hx,zhw c a _ _ (fun hm=>h (by simp [hm]))]
  simp
theorem spG_none {c:UInt8} {a:Str} (cur:Str) (h:c ∉ a):spG c cur a = [cur ++ a]:=by
 have:=zhw c a cur [] h
 rw [List.append_nil] at this
 rw [this]
 rfl
theorem spG_at {c:UInt8} {a:Str} (cur r:Str) (h:c ∉ a):spG c cur (a ++ c :: r) = (cur ++ a) :: sp c r:=by
 rw [zhw c a cur _ h,spG_hit]
 rfl
theorem sp_none {c:UInt8} {a:Str} (h:c ∉ a):sp c a = [a]:=spG_none [] h
theorem sp_at {c:UInt8} {a:Str} (r:Str) (h:c ∉ a):sp c (a ++ c :: r) = a :: sp c r:=spG_at [] r h
theorem zkq (c:UInt8):∀ (s cur:Str),(spG c cur s).length ≤ s.length + 1
 | [],cur=>by simp [spG]
 | x :: r,cur=>by
  unfold spG
  split
  ·
   have:=zkq c r []
   simp;omega
  have:=zkq c r (cur ++ [x])
  simp;omega
theorem sp_len (c:UInt8) (s:Str):(sp c s).length ≤ s.length + 1:=zkq c s []
theorem zkp (c:UInt8):∀ (s cur:Str),∀ a ∈ spG c cur s,a.length ≤ cur.length + s.length
 | [],cur,a,h=>by simp [spG] at h;subst h;simp
 | x :: r,cur,a,h=>by
  unfold spG at h
  split at h
  ·
   rcases List.mem_cons.1 h with rfl | h
   ·
    simp
   have:=zkp c r [] a h
   simp at this ⊢;omega
  have:=zkp c r _ a h
  simp at this ⊢;omega
theorem sp_sub {c:UInt8} {s a:Str} (h:a ∈ sp c s):a.length ≤ s.length:=by simpa using zkp c s [] a h
theorem index_hit {c:UInt8} {a:Str} (r:Str) (h:c ∉ a):Lib.index (a ++ c :: r) [c] = a.length:=by
 induction a with
 | nil=>rw [List.nil_append,zcc];simp
 | cons x a ih=>
  have hx:x ≠ c:=fun e=>h (by simp [e])
  have:=ih (fun hm=>h (by simp [hm]))
  rw [List.cons_append,zcc,if_neg hx,this,if_neg (by omega)]
  simp
theorem cut_at {c:UInt8} {s:Str} (h:c ∈ s):∃ a r,c ∉ a ∧ s = a ++ c :: r:=by
 induction s with
 | nil=>cases h
 | cons x s ih=>
  by_cases e:x = c
  ·
   exact ⟨[],s,by simp,by simp [e]⟩
  obtain ⟨a,r,ha,rfl⟩:=ih (by rcases List.mem_cons.1 h with h | h;exact absurd h.symm e;exact h)
  exact ⟨x :: a,r,by simp [ha,Ne.symm e],rfl⟩
theorem zmj (c:UInt8):∀ (k:Nat) (s:Str),Lib.count s [c] = k → Lib.splitK [c] 0 k s = sp c s
 | 0,s,hk=>by
  have hn:c ∉ s:=by
   rw [Lib.count_one] at hk
   exact List.count_eq_zero.1 hk
  rw [sp_none hn]
  rfl
 | k + 1,s,hk=>by
  rw [Lib.count_one] at hk
  have hm:c ∈ s:=by
   rw [← List.count_pos_iff];omega
  obtain ⟨a,r,ha,rfl⟩:=cut_at hm
  have hix:=index_hit r ha
  rw [Lib.splitK,hix,if_neg (by simp),sp_at r ha]
  have e1:(a ++ c :: r).take (((a.length:Nat):Int).toNat + 0) = a:=by simp
  have e2:(a ++ c :: r).drop (((a.length:Nat):Int).toNat + [c].length) = r:=by
   rw [Int.toNat_natCast,List.drop_append]
   simp
  rw [e1,e2,zmj c k r (by
   rw [Lib.count_one]
   rw [List.count_append,List.count_cons_self,List.count_eq_zero.2 ha] at hk
   omega)]
end Go.Proofs.YtjlaihekocjggaaGreatDoor
