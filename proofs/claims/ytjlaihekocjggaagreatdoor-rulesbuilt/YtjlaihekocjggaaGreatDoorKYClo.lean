/- Texts that the others lean on. -/
import Derived.Test.YtjlaihekocjggaaGreatDoorKMB
namespace Go.Proofs.YtjlaihekocjggaaGreatDoor
open Go.RowKit
def MO (T:Tk → Prop) (x:Mt):Prop:=(∃ t,T t ∧ t.k = 1 ∧ x = ⟨nmL,1,t.t⟩) ∨ ∃ a b c,T a ∧ T b ∧ T c ∧ a.k = 1 ∧ b.k = 5 ∧ mkd b.t ≠ 0 ∧ c.k = 4 ∧ x = ⟨a.t,mkd b.t,c.t⟩
def GO (T:Tk → Prop) (b c:Bool) (ns:List Str):Prop:=(b = false ∧ c = false ∧ ns = []) ∨ (b ≠ c ∧ fewN ns = true ∧ ∀ n ∈ ns,∃ t,T t ∧ t.k = 1 ∧ n = t.t)
structure RdOK (T:Tk → Prop) (E:Int → Prop) (X:Nat → Ex → Prop):Prop where
 num:∀ t,T t → t.k = 2 → X 1 (eNum t.p t.o t.n)
 sel:∀ p m r,E p → (∀ x ∈ m,MO T x) → m.length ≤ 8 → (r = 0 ∨ ∃ t,T t ∧ t.k = 3 ∧ r = t.d) → X 1 (eSel p m r)
 call:∀ n t a,T t → t.k = 1 → isAggB t.t = false → isModB t.t = false → X n a → X (n + 1) (eCall t.p t.t a)
 agg:∀ n t b1 b2 ns a,T t → isAggB t.t = true → GO T b1 b2 ns → X n a → X (n + 1) (eAgg t.p t.t b1 b2 ns a)
 bin:∀ n m t b3 b4 ns a b,T t → t.k = 5 → 1 ≤ lv t.t → GO T b3 b4 ns → X n a → X m b → X (n + m + 1) (eBin t.p t.t b3 b4 ns a b)
 neg:∀ n t a,T t → X n a → X (n + 1) (eNeg t.p a)
def All (T:Tk → Prop) (l:List Tk):Prop:=∀ t ∈ l,T t
theorem All.tail {T:Tk → Prop} {l:List Tk} (h:All T l):All T l.tail:=fun t ht=>h t (List.mem_of_mem_tail ht)
def Oc {α:Type} (T:Tk → Prop) (E:Int → Prop) (A:Nat → α → Prop) (n:Nat) (a:Rs α):Prop:=(∀ er,a = .inl er → E er.1 ∧ (er.2 = 71 ∨ er.2 = 72 ∨ er.2 = 32)) ∧ ∀ x r,a = .inr (x,r) → ∃ k,A k x ∧ k + r.length ≤ n ∧ All T r
section
variable {T:Tk → Prop} {E:Int → Prop} {q:Int}
theorem Oc.good {α:Type} {A:Nat → α → Prop} {n k:Nat} {x:α} {r:List Tk} (h:A k x) (hn:k + r.length ≤ n) (hr:All T r):Oc T E A n (.inr (x,r)):=by
 refine ⟨fun er h'=>(by cases h'),fun y s h'=>?_⟩
 injection h' with h'
 injection h' with h1 h2
 subst h1 h2
 exact ⟨k,h,hn,hr⟩
theorem Oc.badly {α:Type} {A:Nat → α → Prop} {n:Nat} {p c:Int} (h:E p) (hc:c = 71 ∨ c = 72 ∨ c = 32):Oc T E A n (.inl (p,c)):=by
 refine ⟨fun er h'=>?_,fun y s h'=>by cases h'⟩
 injection h' with h'
 subst h'
 exact ⟨h,hc⟩
theorem Oc.mono {α:Type} {A:Nat → α → Prop} {n m:Nat} {a:Rs α} (h:Oc T E A n a) (hn:n ≤ m):Oc T E A m a:=⟨h.1,fun x r hx=>by
 obtain ⟨k,h1,h2,h3⟩:=h.2 x r hx
 exact ⟨k,h1,by omega,h3⟩⟩
theorem Oc.bnd {α β:Type} {A:Nat → α → Prop} {B:Nat → β → Prop} {n m:Nat} {a:Rs α} {f:α × List Tk → Rs β} (h:Oc T E A n a) (hk:∀ x r k,A k x → k + r.length ≤ n → All T r → Oc T E B m (f (x,r))):Oc T E B m (Go.Proofs.YtjlaihekocjggaaGreatDoor.bnd a f):=by
 cases ha:a with
 | inl er=>
  refine ⟨fun e h'=>?_,fun y s h'=>by cases h'⟩
  injection h' with h'
  subst h'
  exact h.1 er ha
 | inr x=>
  obtain ⟨x,r⟩:=x
  obtain ⟨k,h1,h2,h3⟩:=h.2 x r ha
  exact hk x r k h1 h2 h3
theorem zds {l:List Tk} (h:(hd q l).k ≠ 0):∃ t l',l = t :: l':=by
 cases l with
 | nil=>exact absurd rfl h
 | cons t l'=>exact ⟨t,l',rfl⟩
theorem sg_kt {t:Tk} {s:Str} (h:sg t s = true):t.k = 5 ∧ t.t = s:=by
 unfold sg at h
 simpa using h
theorem hd_sg {l:List Tk} {s:Str} (h:sg (hd q l) s = true):∃ t l',l = t :: l' ∧ t.k = 5 ∧ t.t = s:=by
 obtain ⟨h1,h2⟩:=sg_kt h
 obtain ⟨t,l',rfl⟩:=zds (q:=q) (l:=l) (by rw [h1];decide)
 exact ⟨t,l',rfl,h1,h2⟩
def Pl (T:Tk → Prop) (E:Int → Prop) (q:Int):Prop:=(∀ t,T t → E t.p) ∧ E q
theorem Pl.hd (hE:Pl T E q) {l:List Tk} (h:All T l):E (hd q l).p:=by
 cases l with
 | nil=>exact hE.2
 | cons t l=>exact hE.1 t (h t (by simp))
def In {α:Type} (T:Tk → Prop) (E:Int → Prop) (A:Nat → α → Prop) (f:List Tk → Rs α):Prop:=∀ l,All T l → Oc T E A l.length (f l)
theorem in_nmI (hE:Pl T E q):In T E (fun k n=>1 ≤ k ∧ ∃ t,T t ∧ t.k = 1 ∧ n = t.t) (nmI q):=by
 intro l h
 unfold nmI
 split
 ·
  rename_i hk
  obtain ⟨t,l,rfl⟩:=zds (q:=q) (l:=l) (by rw [hk];decide)
  exact Oc.good (k:=1) ⟨Nat.le_refl _,t,h t (by simp),hk,rfl⟩ (by simp;omega) h.tail
 exact Oc.badly (hE.hd h) (Or.inl rfl)
theorem in_mtI (hE:Pl T E q):In T E (fun k n=>1 ≤ k ∧ MO T n) (mtI q):=by
 intro l h
 unfold mtI
 split
 ·
  exact Oc.badly (hE.hd h) (Or.inl rfl)
 rename_i h1
 split
 ·
  exact Oc.badly (hE.hd h.tail) (Or.inl rfl)
 rename_i h2
 split
 ·
  exact Oc.badly (hE.hd h.tail.tail) (Or.inl rfl)
 rename_i h3
 rw [Decidable.not_not] at h1 h3
 rw [not_or,Decidable.not_not] at h2
 obtain ⟨a,l,rfl⟩:=zds (q:=q) (l:=l) (by rw [h1];decide)
 obtain ⟨b,l,rfl⟩:=zds (q:=q) (l:=l) (by rw [show (hd q l).k = 5 from h2.1];decide)
 obtain ⟨c,l,rfl⟩:=zds (q:=q) (l:=l) (by rw [show (hd q l).k = 4 from h3];decide)
 exact Oc.good (k:=1) ⟨Nat.le_refl _,Or.inr ⟨a,b,c,h a (by simp),h b (by simp),h c (by simp),h1,h2.1,h2.2,h3,rfl⟩⟩ (by simp;omega) h.tail.tail.tail
theorem zng {α:Type} {M:α → Prop} {item:List Tk → Rs α} {cl:Str} {few:List α → Bool} (hE:Pl T E q) (hi:In T E (fun k n=>1 ≤ k ∧ M n) item):∀ (f:Nat) (first:Bool) (acc:List α) (l:List Tk),(∀ x ∈ acc,M x) → All T l → Oc T E (fun _ ns=>(∀ x ∈ ns,M x) ∧ few ns = true) l.length (lsF q cl item few f first acc l)
 | 0,_,_,l,_,h=>Oc.badly (hE.hd h) (Or.inl rfl)
 | f + 1,first,acc,l,ha,h=>by
  rw [lsF]
  split
  ·
   split
   ·
    rename_i hf
    exact Oc.good (k:=0) ⟨ha,hf⟩ (by simp) h.tail
   exact Oc.badly (hE.hd h) (Or.inr (Or.inr rfl))
  split
  ·
   exact Oc.badly (hE.hd h) (Or.inl rfl)
  have hr:All T (if first = true then l else l.tail):=by
   cases first
   ·
    exact h.tail
   exact h
  have hl:(if first = true then l else l.tail).length ≤ l.length:=by cases first <;> simp
  refine ((hi _ hr).mono hl).bnd ?_
  intro x r k hk hkn hr'
  refine (zng hE hi f false (acc ++ [x]) r ?_ hr').mono (by omega)
  intro y hy
  rcases List.mem_append.1 hy with hy | hy
  ·
   exact ha y hy
  simp at hy
  subst hy
  exact hk.2
theorem in_nmP (hE:Pl T E q):In T E (fun _ ns=>(∀ n ∈ ns,∃ t,T t ∧ t.k = 1 ∧ n = t.t) ∧ fewN ns = true) (nmP q):=by
 intro l h
 unfold nmP
 split
 ·
  exact (zng hE (in_nmI hE) _ _ _ _ (fun x hx=>by simp at hx) h.tail).mono (by simp)
 exact Oc.badly (hE.hd h) (Or.inl rfl)
theorem in_brP (hE:Pl T E q) (a:List Mt) (ha:∀ x ∈ a,MO T x) (hl:a.length ≤ 8):In T E (fun _ ns=>(∀ x ∈ ns,MO T x) ∧ fewM ns = true) (brP q a):=by
 intro l h
 unfold brP
 split
 ·
  exact (zng hE (in_mtI hE) _ _ _ _ ha h.tail).mono (by simp)
 exact Oc.good (k:=0) ⟨ha,by unfold fewM;simpa using hl⟩ (by omega) h
theorem in_wnP (hE:Pl T E q):In T E (fun _ r=>r = 0 ∨ ∃ t,T t ∧ t.k = 3 ∧ r = t.d) (wnP q):=by
 intro l h
 unfold wnP
 split
 ·
  exact Oc.good (k:=0) (Or.inl rfl) (by omega) h
 split
 ·
  exact Oc.badly (hE.hd h.tail) (Or.inl rfl)
 rename_i h3
 split
 ·
  exact Oc.badly (hE.hd h.tail.tail) (Or.inl rfl)
 rw [Decidable.not_not] at h3
 obtain ⟨a,l',e⟩:=zds (q:=q) (l:=l.tail) (by rw [h3];decide)
 refine Oc.good (k:=0) (Or.inr ⟨a,h.tail a (by rw [e];simp),?_,?_⟩) (by simp;omega) h.tail.tail.tail
 ·
  rw [e] at h3;exact h3
 rw [e];rfl
variable {X:Nat → Ex → Prop}
theorem in_selP (hE:Pl T E q) (hX:RdOK T E X) {l:List Tk} (h:All T l) (hl:(hd q l).k = 1 ∨ sg (hd q l) [123] = true):Oc T E X l.length (selP q l):=by
 unfold selP
 have hA:(∀ x ∈ selA q l,MO T x) ∧ (selA q l).length ≤ 8 ∧ All T (selL q l) ∧ (selL q l).length ≤ l.length:=by
  unfold selA selL
  split
  ·
   rename_i hk
   obtain ⟨t,l,rfl⟩:=zds (q:=q) (l:=l) (by rw [hk];decide)
   refine ⟨fun x hx=>?_,by simp,h.tail,by simp⟩
   simp at hx
   exact Or.inl ⟨t,h t (by simp),hk,hx⟩
  exact ⟨fun x hx=>by simp at hx,by simp,h,Nat.le_refl _⟩
 have hb:Oc T E (fun _ ns=>(∀ x ∈ ns,MO T x) ∧ fewM ns = true) (l.length - 1) (brP q (selA q l) (selL q l)):=by
  by_cases hk:(hd q l).k = 1
  ·
   refine (in_brP hE _ hA.1 hA.2.1 _ hA.2.2.1).mono ?_
   unfold selL
   rw [if_pos hk]
   simp
  have hs:=hl.resolve_left hk
  unfold brP
  have e:selL q l = l:=by unfold selL;rw [if_neg hk]
  rw [e,if_pos hs]
  exact (zng hE (in_mtI hE) _ _ _ _ hA.1 h.tail).mono (by simp)
 refine hb.bnd ?_
 intro a r k ha hk hr
 have h0:0 < l.length:=by
  cases l with
  | nil=>rcases hl with hl | hl <;> cases hl
  | cons x l=>simp
 refine (in_wnP hE r hr).bnd ?_
 intro b r' k' hb hk' hr'
 refine Oc.good (k:=1) (hX.sel _ _ _ (hE.hd h) ha.1 ?_ hb) (by dsimp only;omega) hr'
 have:=ha.2
 unfold fewM at this
 simpa using this
theorem in_modP (hE:Pl T E q):In T E (fun _ m=>GO T m.on m.ig m.ns) (modP q):=by
 intro l h
 unfold modP
 split
 ·
  exact Oc.good (k:=0) (Or.inl ⟨rfl,rfl,rfl⟩) (by omega) h
 rename_i hm
 refine ((in_nmP hE _ h.tail).mono (m:=l.length) (by simp)).bnd ?_
 intro a r k ha hk hr
 refine Oc.good (k:=0) (Or.inr ⟨?_,ha.2,ha.1⟩) (by dsimp only;omega) hr
 rw [Bool.not_eq_false] at hm
 unfold hasMod at hm
 simp only [Bool.and_eq_true] at hm
 have h2:=hm.1.2
 unfold isModB at h2
 rw [Bool.or_eq_true,beq_iff_eq,beq_iff_eq] at h2
 show ((hd q l).t == wOn) ≠ ((hd q l).t == wIgn)
 rcases h2 with e | e <;> rw [e] <;> decide
theorem in_chF (hE:Pl T E q) (hX:RdOK T E X) {lev:Int} (hl1:1 ≤ lev) {u:List Tk → Rs Ex} (hu:In T E X u):∀ (f n:Nat) (e:Ex) (l:List Tk),X n e → All T l → Oc T E X (n + l.length) (chF q lev u f e l)
 | 0,n,e,l,he,h=>Oc.good (k:=n) he (by omega) h
 | f + 1,n,e,l,he,h=>by
  rw [chF]
  split
  ·
   exact Oc.good (k:=n) he (by omega) h
  rename_i ho
  rw [Bool.not_eq_false] at ho
  unfold isOp at ho
  rw [Bool.and_eq_true,beq_iff_eq,beq_iff_eq] at ho
  obtain ⟨t,l,rfl⟩:=zds (q:=q) (l:=l) (by rw [ho.1];decide)
  have hj:Oc T E X (n + (t :: l).length) (joinP q u e (t :: l)):=by
   unfold joinP
   refine (in_modP hE _ h.tail).bnd ?_
   intro a r k ha hk hr
   refine (hu _ hr).bnd ?_
   intro b r' k' hb hk' hr'
   exact Oc.good (k:=n + k' + 1) (hX.bin n k' t _ _ _ _ _ (h t (by simp)) ho.1 (by rw [show lv t.t = lev from ho.2];exact hl1) ha he hb) (by simp at hk ⊢;omega) hr'
  refine hj.bnd ?_
  intro b r k hb hk hr
  exact (in_chF hE hX hl1 hu f k b r hb hr).mono hk
theorem in_chP (hE:Pl T E q) (hX:RdOK T E X) {lev:Int} (hl1:1 ≤ lev) {u:List Tk → Rs Ex} (hu:In T E X u):In T E X (chP q lev u):=by
 intro l h
 unfold chP
 refine (hu _ h).bnd ?_
 intro b r k hb hk hr
 exact (in_chF hE hX hl1 hu _ k b r hb hr).mono hk
theorem in_cmp (hE:Pl T E q) (hX:RdOK T E X) {u:List Tk → Rs Ex} (hu:In T E X u):In T E X (cmpP q u):=in_chP hE hX (by decide) (in_chP hE hX (by decide) (in_chP hE hX (by decide) hu))
theorem in_brk (hE:Pl T E q) {c:List Tk → Rs Ex} (hc:In T E X c):In T E X (brkP q c):=by
 intro l h
 unfold brkP
 split
 ·
  exact Oc.badly (hE.hd h) (Or.inl rfl)
 refine ((hc _ h.tail).mono (m:=l.length) (by simp)).bnd ?_
 intro b r k hb hk hr
 show Oc T E X _ (if sg (hd q r) [41] = true then .inr (b,r.tail) else .inl (bad q r 71))
 split
 ·
  exact Oc.good (k:=k) hb (by simp;omega) hr.tail
 exact Oc.badly (hE.hd hr) (Or.inl rfl)
theorem in_grp (hE:Pl T E q) {l:List Tk} (h:All T l) (hg:(hd q l).k = 1 → isGrpB (hd q l).t = true):Oc T E (fun _ m=>GO T m.on m.ig m.ns) l.length (grpP q l):=by
 unfold grpP
 split
 ·
  exact Oc.good (k:=0) (Or.inl ⟨rfl,rfl,rfl⟩) (by omega) h
 rename_i hk
 rw [Decidable.not_not] at hk
 refine ((in_nmP hE _ h.tail).mono (m:=l.length) (by simp)).bnd ?_
 intro a r k ha hk' hr
 refine Oc.good (k:=0) (Or.inr ⟨?_,ha.2,ha.1⟩) (by dsimp only;omega) hr
 have h2:=hg hk
 unfold isGrpB at h2
 rw [Bool.or_eq_true,beq_iff_eq,beq_iff_eq] at h2
 show ((hd q l).t == wBy) ≠ ((hd q l).t == wWo)
 rcases h2 with e | e <;> rw [e] <;> decide
theorem in_nam (hE:Pl T E q) (hX:RdOK T E X) {c:List Tk → Rs Ex} (hc:In T E X c) {l:List Tk} (h:All T l) (hk:(hd q l).k = 1):Oc T E X l.length (namP q c l):=by
 obtain ⟨t,l,rfl⟩:=zds (q:=q) (l:=l) (by rw [hk];decide)
 have hk:t.k = 1:=hk
 unfold namP
 split
 ·
  rename_i ha
  rw [Bool.and_eq_true,Bool.or_eq_true,Bool.and_eq_true] at ha
  unfold aggP
  refine (in_grp hE h.tail ?_).bnd ?_
  ·
   intro hk1
   rcases ha.2 with hs | hs
   ·
    rw [(sg_kt hs).1] at hk1
    cases hk1
   exact hs.2
  intro m r k hm hkn hr
  refine (in_brk hE hc _ hr).bnd ?_
  intro b r' k' hb hk' hr'
  exact Oc.good (k:=k' + 1) (hX.agg k' t _ _ _ _ (h t (by simp)) ha.1 hm hb) (by simp at hkn ⊢;omega) hr'
 rename_i ha
 split
 ·
  exact Oc.badly (hE.hd h) (Or.inl rfl)
 rename_i hm
 split
 ·
  rename_i ho
  have h1:isAggB t.t = false:=by
   cases hA:isAggB t.t with
   | false=>rfl
   | true=>
    exfalso
    apply ha
    rw [ho,Bool.true_or,Bool.and_true]
    exact hA
  have h2:isModB t.t = false:=by
   cases hA:isModB t.t with
   | false=>rfl
   | true=>
    exfalso
    apply hm
    rw [ho,Bool.and_true]
    exact hA
  unfold callP
  refine (in_brk hE hc _ h.tail).bnd ?_
  intro b r k hb hkn hr
  exact Oc.good (k:=k + 1) (hX.call k t _ (h t (by simp)) hk h1 h2 hb) (by simp at hkn ⊢;omega) hr
 exact in_selP hE hX h (Or.inl hk)
theorem in_prm (hE:Pl T E q) (hX:RdOK T E X) {c:List Tk → Rs Ex} (hc:In T E X c):In T E X (prmP q c):=by
 intro l h
 unfold prmP
 split
 ·
  rename_i hk
  obtain ⟨t,l,rfl⟩:=zds (q:=q) (l:=l) (by rw [hk];decide)
  exact Oc.good (k:=1) (hX.num t (h t (by simp)) hk) (by simp;omega) h.tail
 split
 ·
  rename_i hk
  exact in_nam hE hX hc h hk
 split
 ·
  exact in_brk hE hc _ h
 split
 ·
  rename_i hs
  exact in_selP hE hX h (Or.inr hs)
 exact Oc.badly (hE.hd h) (Or.inl rfl)
theorem in_un (hE:Pl T E q) (hX:RdOK T E X) {n c:List Tk → Rs Ex} (hn:In T E X n) (hc:In T E X c):In T E X (unP q n c):=by
 intro l h
 unfold unP
 split
 ·
  exact in_prm hE hX hc l h
 rename_i hs
 rw [Bool.not_eq_false] at hs
 obtain ⟨t,l,rfl,_,_⟩:=hd_sg hs
 refine (hn _ h.tail).bnd ?_
 intro b r k hb hkn hr
 exact Oc.good (k:=k + 1) (hX.neg k t _ (h t (by simp)) hb) (by simp at hkn ⊢;omega) hr
theorem in_deep (hE:Pl T E q):In T E X (deep q):=fun _ h=>Oc.badly (hE.hd h) (Or.inr (Or.inl rfl))
theorem in_unD (hE:Pl T E q) (hX:RdOK T E X):∀ d,In T E X (unD q d)
 | 0=>in_un hE hX (in_deep hE) (in_deep hE)
 | d + 1=>in_un hE hX (in_unD hE hX d) (in_cmp hE hX (in_unD hE hX d))
theorem rd_all (hE:∀ t,T t → E t.p) (h0:E 0) (hX:RdOK T E X) {l:List Tk} (h:All T l):(∀ er,rdP l = .inl er → E er.1 ∧ (er.2 = 71 ∨ er.2 = 72 ∨ er.2 = 32)) ∧ ∀ e,rdP l = .inr e → ∃ k,X k e ∧ k ≤ l.length:=by
 have hq:E (endP l):=by
  unfold endP
  cases hg:l.getLast? with
  | none=>exact h0
  | some t=>exact hE t (h t (List.mem_of_getLast? hg))
 have hE':Pl T E (endP l):=⟨hE,hq⟩
 have hc:=in_cmp hE' hX (in_unD hE' hX 15) l h
 unfold rdP whP
 cases ha:cmpP (endP l) (unD (endP l) 15) l with
 | inl er=>
  rw [ha] at hc
  refine ⟨fun e h'=>?_,fun e h'=>by cases h'⟩
  injection h' with h'
  subst h'
  exact hc.1 er rfl
 | inr x=>
  obtain ⟨x,r⟩:=x
  rw [ha] at hc
  obtain ⟨k,h1,h2,h3⟩:=hc.2 x r rfl
  show (∀ er,(if (hd (endP l) r).k = 0 then .inr x else .inl (bad (endP l) r 71)) = Sum.inl er → _) ∧ ∀ e,(if (hd (endP l) r).k = 0 then .inr x else .inl (bad (endP l) r 71)) = Sum.inr e → _
  split
  ·
   refine ⟨fun e h'=>(by cases h'),fun e h'=>?_⟩
   injection h' with h'
   subst h'
   exact ⟨k,h1,by omega⟩
  refine ⟨fun e h'=>?_,fun e h'=>by cases h'⟩
  injection h' with h'
  subst h'
  exact ⟨hE'.hd h3,Or.inl rfl⟩
end
end Go.Proofs.YtjlaihekocjggaaGreatDoor
