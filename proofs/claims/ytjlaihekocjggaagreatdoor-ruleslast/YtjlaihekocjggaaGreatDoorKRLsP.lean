/- The law RulesLast: the first error counts: what follows it plays no part. -/
import Derived.Test.YtjlaihekocjggaaGreatDoorKRPz
namespace Go.Proofs.YtjlaihekocjggaaGreatDoor
open Go.RowKit
def lB (B p:Int):Prop:=0 ≤ p ∧ p ≤ B
def pbG (B:Int) (e:Ex) (l:List Bool):Bool:=decide (0 ≤ e.p) && decide (e.p ≤ B) && l.all id
def pb (B:Int) (e:Ex):Bool:=foldE (pbG B) e
theorem pb_eq (B:Int) (e:Ex):pb B e = (decide (0 ≤ e.p) && decide (e.p ≤ B) && (e.ks.map (pb B)).all id):=by
 show foldE (pbG B) e = _
 rw [zdo]
 rfl
theorem pb_iff {B:Int} {e:Ex}:pb B e = true ↔ lB B e.p ∧ ∀ x ∈ e.ks,pb B x = true:=by
 rw [pb_eq,Bool.and_eq_true,Bool.and_eq_true,decide_eq_true_eq,decide_eq_true_eq,List.all_eq_true]
 refine ⟨fun h=>⟨h.1,fun x hx=>h.2 _ (List.mem_map.2 ⟨x,hx,rfl⟩)⟩,fun h=>⟨h.1,fun b hb=>?_⟩⟩
 obtain ⟨x,hx,rfl⟩:=List.mem_map.1 hb
 exact h.2 x hx
theorem pb_one {B:Int} {a:Ex} (ha:pb B a = true):∀ x ∈ [a],pb B x = true:=fun x hx=>by
 rw [List.mem_singleton] at hx
 subst hx
 exact ha
theorem pb_ok (B:Int):RdOK (fun t=>lB B t.p) (lB B) (fun _ e=>pb B e = true):={
 num:=fun t ht _=>pb_iff.2 ⟨ht,fun x hx=>by cases hx⟩
 sel:=fun p m r hp _ _ _=>pb_iff.2 ⟨hp,fun x hx=>by cases hx⟩
 call:=fun n t a ht _ _ _ ha=>pb_iff.2 ⟨ht,pb_one ha⟩
 agg:=fun n t b1 b2 ns a ht _ _ ha=>pb_iff.2 ⟨ht,pb_one ha⟩
 bin:=fun n m t b3 b4 ns a b ht _ _ _ ha hb=>pb_iff.2 ⟨ht,fun x hx=>by
  rcases List.mem_cons.1 hx with rfl | hx
  ·
   exact ha
  exact pb_one hb x hx⟩
 neg:=fun n t a ht ha=>pb_iff.2 ⟨ht,pb_one ha⟩ }
theorem ps_pb (s:Str):pb s.length (psX s) = true ∧ lB s.length (psA s):=by
 have hz:lB s.length 0:=⟨by decide,by omega⟩
 have h0:pb s.length ex0 = true:=pb_iff.2 ⟨hz,fun x hx=>by cases hx⟩
 obtain ⟨_,f2,f3⟩:=zeg s
 unfold psX psA
 by_cases he:scE s = 0
 ·
  rw [if_pos he,if_pos he]
  obtain ⟨r1,r2⟩:=rd_all (T:=fun t=>lB s.length t.p) (E:=lB s.length) (fun t ht=>ht) hz (pb_ok s.length) f2
  unfold rdX rdA
  cases hr:rdP (scL s) with
  | inl er=>exact ⟨h0,(r1 er hr).1⟩
  | inr e=>
   obtain ⟨k,a,_⟩:=r2 e hr
   exact ⟨a,hz⟩
 rw [if_neg he,if_neg he]
 exact ⟨h0,f3⟩
theorem misP_in {B:Int} (k:Int):∀ (ps ts:List Int),(∀ p ∈ ps,lB B p) → ∀ p,misP k ps ts = some p → lB B p
 | [],_,_,p,h=>by cases h
 | _ :: _,[],_,p,h=>by cases h
 | q :: ps,t :: ts,hp,p,h=>by
  rw [misP] at h
  split at h
  ·
   exact misP_in k ps ts (fun x hx=>hp x (by simp [hx])) p h
  injection h with h
  subst h
  exact hp _ (by simp)
theorem badT_in {B:Int}:∀ (l:List Ty),(∀ r ∈ l,lB B r.2.1) → ∀ b,badT l = some b → lB B b.1
 | [],_,b,h=>by cases h
 | r :: l,hl,b,h=>by
  rw [badT] at h
  split at h
  ·
   exact badT_in l (fun x hx=>hl x (by simp [hx])) b h
  injection h with h
  subst h
  exact hl r (by simp)
theorem ty_in {B:Int} (h0:0 ≤ B):∀ e:Ex,pb B e = true → lB B (tyE e).2.1:=by
 have hz:lB B 0:=⟨by decide,h0⟩
 refine Ex.ind _ ?_
 intro e ih h
 obtain ⟨hp,hk⟩:=pb_iff.1 h
 rw [tyE_eq,tyG]
 split
 ·
  exact hp
 cases hb:badT (e.ks.map tyE) with
 | some b=>exact badT_in _ (fun r hr=>by
   obtain ⟨x,hx,rfl⟩:=List.mem_map.1 hr
   exact ih x hx (hk x hx)) b hb
 | none=>
  show lB B (fitT e _).2.1
  unfold fitT
  split
  ·
   next p hm=>exact misP_in _ _ _ (fun q hq=>by
    obtain ⟨x,hx,rfl⟩:=List.mem_map.1 hq
    exact (pb_iff.1 (hk x hx)).1) p hm
  split
  ·
   exact hp
  exact hz
theorem ex_in (t:Str):lB t.length (exW t).1:=by
 obtain ⟨h1,h2⟩:=ps_pb t
 have hz:lB t.length 0:=⟨by decide,by omega⟩
 have ho:lB t.length (ofE (psX t)).2.1:=by
  unfold ofE
  split
  ·
   exact ty_in (by omega) _ h1
  exact hz
 unfold exW
 split
 ·
  unfold ruE
  split
  ·
   exact ho
  split
  ·
   exact (pb_iff.1 h1).1
  exact hz
 exact h2
theorem rcX_le (l:Str):(rcX l).length ≤ l.length:=by
 unfold rcX rcR Lib.trimPrefix
 rw [List.length_drop]
 split
 ·
  rw [List.length_drop];omega
 omega
theorem stC_in {c:Cf} {l:Str} {x:Int × Int} (hl:l.length ≤ 1000000) (h:stC c l = .inr x):0 ≤ x.1 ∧ x.1 ≤ l.length:=by
 have hz:∀ {y:Int},(Sum.inr (0,y):Cf ⊕ (Int × Int)) = .inr x → 0 ≤ x.1 ∧ x.1 ≤ l.length:=fun h=>by
  injection h with h
  subst h
  exact ⟨Int.le_refl 0,by show (0:Int) ≤ _;omega⟩
 unfold stC at h
 split at h
 ·
  cases h
 split at h
 ·
  unfold stG at h
  split at h
  ·
   exact hz h
  split at h
  ·
   exact hz h
  split at h
  ·
   exact hz h
  cases h
 split at h
 ·
  unfold stR at h
  split at h
  ·
   split at h
   ·
    exact hz h
   split at h
   ·
    exact hz h
   split at h
   ·
    cases h
   injection h with h
   subst h
   have h1:=ex_in (rcX l)
   have h2:=rcX_le l
   obtain ⟨h3,h4⟩:=h1
   show 0 ≤ wI _ ∧ wI _ ≤ _
   unfold wI
   rw [IntKind.wrap_i64]
   omega
  exact hz h
 unfold stL at h
 split at h
 ·
  split at h
  ·
   split at h
   ·
    exact hz h
   cases h
  exact hz h
 exact hz h
theorem runF_bad:∀ (A B:List Str) (c:Cf) (b:Int),(runF c b A).2.2 ≠ 0 → (runF c b (A ++ B)).2 = (runF c b A).2
 | [],_,_,_,h=>absurd rfl h
 | l :: A,B,c,b,h=>by
  rw [List.cons_append]
  rw [runF] at h ⊢
  rw [runF]
  cases hs:stC c l with
  | inl c'=>
   rw [hs] at h
   exact runF_bad A B c' _ h
  | inr x=>rfl
def tot:List Str → Int
 | []=>0
 | l :: ls=>(l.length:Int) + 1 + tot ls
theorem tot_nn:∀ L,0 ≤ tot L
 | []=>Int.le_refl 0
 | l :: L=>by
  have:=tot_nn L
  rw [tot]
  omega
theorem runF_good:∀ (A B:List Str) (c:Cf) (b:Int),(runF c b A).2.2 = 0 → ∃ c',runF c b (A ++ B) = runF c' (b + tot A) B
 | [],B,c,b,_=>⟨c,by rw [List.nil_append,tot,Int.add_zero]⟩
 | l :: A,B,c,b,h=>by
  rw [List.cons_append]
  rw [runF] at h
  rw [runF]
  cases hs:stC c l with
  | inl c'=>
   rw [hs] at h
   obtain ⟨c2,e⟩:=runF_good A B c' _ h
   refine ⟨c2,?_⟩
   show runF c' (b + ((l.length:Int) + 1)) (A ++ B) = _
   rw [e,tot]
   congr 1
   omega
  | inr x=>
   rw [hs] at h
   exact absurd h (stC_err (x:=x) hs)
theorem runF_place:∀ (L:List Str) (c:Cf) (b:Int),0 ≤ b → b + tot L ≤ 1000000 → (runF c b L).2.2 = 0 ∨ b ≤ (runF c b L).2.1
 | [],_,_,_,_=>Or.inl rfl
 | l :: L,c,b,h0,h1=>by
  rw [tot] at h1
  have hn:=tot_nn L
  rw [runF]
  cases hs:stC c l with
  | inl c'=>
   have:=runF_place L c' (b + ((l.length:Int) + 1)) (by omega) (by omega)
   show (runF c' (b + ((l.length:Int) + 1)) L).2.2 = 0 ∨ b ≤ (runF c' (b + ((l.length:Int) + 1)) L).2.1
   rcases this with h | h
   ·
    exact Or.inl h
   exact Or.inr (by omega)
  | inr x=>
   refine Or.inr ?_
   have:=stC_in (by omega) hs
   show b ≤ wI (b + x.1)
   unfold wI
   rw [IntKind.wrap_i64]
   omega
theorem spG_app (c:UInt8) (t:Str):∀ (s cur:Str),spG c cur (s ++ c :: t) = spG c cur s ++ sp c t
 | [],cur=>by rw [List.nil_append,spG_hit];rfl
 | x :: r,cur=>by
  rw [List.cons_append]
  by_cases hx:x = c
  ·
   subst hx
   rw [spG_hit,spG_hit,spG_app x t r []]
   rfl
  rw [spG_miss hx,spG_miss hx,spG_app c t r _]
theorem tot_spG (c:UInt8):∀ (s cur:Str),tot (spG c cur s) = (cur.length:Int) + s.length + 1
 | [],cur=>by show tot [cur] = _;rw [tot,tot];simp
 | x :: r,cur=>by
  by_cases hx:x = c
  ·
   subst hx
   rw [spG_hit,tot,tot_spG x r []]
   simp only [List.length_nil,List.length_cons]
   omega
  rw [spG_miss hx,tot_spG c r _]
  simp only [List.length_append,List.length_cons,List.length_nil]
  omega
theorem last_plain (s t:Str) (hs:s.length ≤ 600) (ht:t.length ≤ 600):((pF s).2.2 = 0 → (pF (s ++ 10 :: t)).2.2 = 0 ∨ (s.length:Int) < (pF (s ++ 10 :: t)).2.1) ∧ ((pF s).2.2 ≠ 0 → (pF (s ++ 10 :: t)).2 = (pF s).2):=by
 have e2:sp 10 (s ++ 10 :: t) = sp 10 s ++ sp 10 t:=spG_app 10 t s []
 have l1:¬ 3000 < s.length:=by omega
 have l2:¬ 3000 < (s ++ 10 :: t).length:=by simp;omega
 have t1:tot (sp 10 s) = (s.length:Int) + 1:=by
  have:=tot_spG 10 s []
  simp only [List.length_nil] at this
  show tot (spG 10 [] s) = _
  omega
 have t2:tot (sp 10 t) = (t.length:Int) + 1:=by
  have:=tot_spG 10 t []
  simp only [List.length_nil] at this
  show tot (spG 10 [] t) = _
  omega
 unfold pF
 rw [if_neg l1,if_neg l2,e2]
 refine ⟨fun h=>?_,fun h=>runF_bad _ _ _ _ h⟩
 obtain ⟨c',e3⟩:=runF_good (sp 10 s) (sp 10 t) cf0 0 h
 rw [e3,t1]
 rcases runF_place (sp 10 t) c' (0 + ((s.length:Int) + 1)) (by omega) (by omega) with h | h
 ·
  exact Or.inl h
 exact Or.inr (by omega)
end Go.Proofs.YtjlaihekocjggaaGreatDoor
