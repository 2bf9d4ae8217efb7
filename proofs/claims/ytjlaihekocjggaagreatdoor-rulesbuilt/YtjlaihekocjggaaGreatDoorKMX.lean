/- Texts that the others lean on. -/
import Derived.Lib.AtoiAllMem
import Derived.Lib.ItoaLen
import Derived.BigQuiet
import Derived.Test.YtjlaihekocjggaaGreatDoorKMB
set_option maxHeartbeats 16000000
namespace Go.Proofs.YtjlaihekocjggaaGreatDoor
open Go.RowKit
theorem dec_snoc {m d:Nat} (hm:1 ≤ m) (hd:d < 10):Lib.decDigits (m * 10 + d) = Lib.decDigits m ++ [UInt8.ofNat (48 + d)]:=by
 rw [Lib.decDigits,dif_neg (by omega)]
 congr 2
 ·
  congr 1;omega
 congr 2;omega
theorem zif {c:UInt8} (h:Fx.isDg c = true):c = UInt8.ofNat (48 + (c.toNat - 48)) ∧ c.toNat - 48 < 10:=by
 unfold Fx.isDg at h
 have h:=of_decide_eq_true h
 refine ⟨?_,by omega⟩
 apply UInt8.toNat.inj
 rw [Fx.digit_toNat (by omega)]
 omega
theorem rd_pos:∀ (l:Str),Fx.dgs l = true → l ≠ [] → l.head? ≠ some 48 → 1 ≤ Fx.rd l:=by
 intro l hd hn hh
 cases l with
 | nil=>exact absurd rfl hn
 | cons c r=>
  have e:Fx.rd (c :: r) = Fx.rd [c] * 10 ^ r.length + Fx.rd r:=by
   have:=Fx.rd_append [c] r
   simpa using this
  have hc:Fx.isDg c = true:=by
   unfold Fx.dgs at hd
   simp only [List.all_cons,Bool.and_eq_true] at hd
   exact hd.1
  obtain ⟨hc1,hc2⟩:=zif hc
  have h0:c.toNat - 48 ≠ 0:=fun e0=>by
   rw [e0] at hc1
   exact hh (by simp [hc1])
  have e1:Fx.rd [c] = c.toNat - 48:=by show 0 * 10 + (c.toNat - 48) = _;omega
  rw [e,e1]
  have:1 ≤ 10 ^ r.length:=Nat.one_le_pow _ _ (by omega)
  have:1 ≤ (c.toNat - 48) * 10 ^ r.length:=Nat.le_trans this (Nat.le_mul_of_pos_left _ (by omega))
  omega
theorem dec_rd:∀ (n:Nat) (s:Str),s.length = n → Fx.dgs s = true → s ≠ [] → (s.length = 1 ∨ s.head? ≠ some 48) → Lib.decDigits (Fx.rd s) = s:=by
 intro n
 induction n with
 | zero=>intro s h _ hn;exact absurd (List.length_eq_zero_iff.1 h) hn
 | succ n ih=>
  intro s hl hd hn hh
  obtain ⟨l,c,rfl⟩:∃ l c,s = l ++ [c]:=⟨s.dropLast,s.getLast hn,(List.dropLast_concat_getLast hn).symm⟩
  have hd':Fx.dgs l = true ∧ Fx.isDg c = true:=by rw [Fx.dgs_snoc,Bool.and_eq_true] at hd;exact hd
  obtain ⟨hc1,hc2⟩:=zif hd'.2
  rw [Fx.rd_snoc]
  by_cases he:l = []
  ·
   subst he
   show Lib.decDigits (0 * 10 + _) = _
   rw [Nat.zero_mul,Nat.zero_add,Lib.decDigits_one hc2,← hc1]
   rfl
  have hh':l.head? ≠ some 48:=by
   rcases hh with hh | hh
   ·
    exact absurd (List.length_eq_zero_iff.1 (by simpa using hh)) he
   cases l with
   | nil=>exact absurd rfl he
   | cons a l=>simpa using hh
  rw [dec_snoc (rd_pos l hd'.1 he hh') hc2,ih l (by simpa using hl) hd'.1 he (Or.inr hh'),← hc1]
theorem parse10:∀ (l:Str) (acc:Nat),Fx.dgs l = true → (acc + 1) * 10 ^ l.length ≤ 1000000000000000000 → Lib.parseUint10 acc l = .ok (acc * 10 ^ l.length + Fx.rd l)
 | [],acc,_,_=>by simp [Lib.parseUint10,Fx.rd]
 | c :: r,acc,hd,hb=>by
  have hd':Fx.isDg c = true ∧ Fx.dgs r = true:=by
   unfold Fx.dgs at hd ⊢
   simpa only [List.all_cons,Bool.and_eq_true] using hd
  have hc:=hd'.1
  unfold Fx.isDg at hc
  have hc:=of_decide_eq_true hc
  have hp:1 ≤ 10 ^ r.length:=Nat.one_le_pow _ _ (by omega)
  have e10:10 ^ (c :: r).length = 10 * 10 ^ r.length:=by rw [List.length_cons,Nat.pow_succ];omega
  rw [e10] at hb
  have hb1:(acc + 1) * 10 * 10 ^ r.length ≤ 1000000000000000000:=by rw [Nat.mul_assoc];exact hb
  have hb2:(acc + 1) * 10 ≤ 1000000000000000000:=Nat.le_trans (Nat.le_mul_of_pos_right _ hp) hb1
  have hb3:(acc * 10 + (c.toNat - 48) + 1) * 10 ^ r.length ≤ 1000000000000000000:=Nat.le_trans (Nat.mul_le_mul_right _ (by omega)) hb1
  rw [Lib.parseUint10,if_pos (by omega),if_neg (by omega),if_neg (by omega),parse10 r _ hd'.2 hb3,e10]
  have e1:Fx.rd (c :: r) = Fx.rd [c] * 10 ^ r.length + Fx.rd r:=by
   have:=Fx.rd_append [c] r
   simpa using this
  have e2:Fx.rd [c] = c.toNat - 48:=by show 0 * 10 + (c.toNat - 48) = _;omega
  rw [e1,e2,Nat.add_mul,Nat.mul_assoc]
  congr 1
  omega
theorem zls {s:Str} (h:duOk s = true):1 ≤ s.length ∧ s.length ≤ 3 ∧ Fx.dgs s = true ∧ (s.length = 1 ∨ s.head? ≠ some 48) ∧ 1 ≤ Fx.rd s ∧ Fx.rd s ≤ 100:=by
 unfold duOk at h
 rw [Bool.and_eq_true,Bool.and_eq_true,Bool.and_eq_true,Bool.or_eq_true,decide_eq_true_iff,decide_eq_true_iff,decide_eq_true_iff,decide_eq_true_iff] at h
 obtain ⟨⟨⟨h0,h4⟩,h5⟩,h6⟩:=h
 obtain ⟨h1,h2,h3⟩:=Fx.digits_of h0
 exact ⟨h1,h2,h3,h4,h5,h6⟩
theorem duOk_to {s:Str} (h1:1 ≤ s.length) (h2:s.length ≤ 3) (h3:Fx.dgs s = true) (h4:s.length = 1 ∨ s.head? ≠ some 48) (h5:1 ≤ Fx.rd s) (h6:Fx.rd s ≤ 100):duOk s = true:=by
 unfold duOk
 rw [Bool.and_eq_true,Bool.and_eq_true,Bool.and_eq_true,Bool.or_eq_true,decide_eq_true_iff,decide_eq_true_iff,decide_eq_true_iff,decide_eq_true_iff]
 refine ⟨⟨⟨?_,h4⟩,h5⟩,h6⟩
 unfold Fx.fDigits
 rw [decide_eq_true h1,decide_eq_true h2,h3]
 rfl
theorem atoi_du {s:Str} (h:duOk s = true):Lib.atoiAll s = .ok (Fx.rd s:Int) ∧ Lib.itoa (Fx.rd s:Int) = s:=by
 obtain ⟨l1,l2,hd,hh,h5,h6⟩:=zls h
 have hne:s ≠ []:=fun e=>by subst e;simp at l1
 refine ⟨?_,by rw [Lib.itoa_nonneg];exact dec_rd _ s rfl hd hne hh⟩
 have hp:Lib.parseMag s = .ok (Fx.rd s):=by
  unfold Lib.parseMag
  rw [if_neg hne,parse10 s 0 hd (by
   have:10 ^ s.length ≤ 10 ^ 3:=Nat.pow_le_pow_right (by omega) l2
   omega)]
  simp
 cases s with
 | nil=>exact absurd rfl hne
 | cons c r=>
  have hc:Fx.isDg c = true:=by
   unfold Fx.dgs at hd
   simp only [List.all_cons,Bool.and_eq_true] at hd
   exact hd.1
  unfold Fx.isDg at hc
  have hc:=of_decide_eq_true hc
  unfold Lib.atoiAll
  simp only
  rw [if_neg (by omega),hp]
  simp only
  rw [if_neg (by omega),if_neg (by omega),if_neg (by omega)]
theorem du_dec {u:Nat} (h0:1 ≤ u) (h1:u ≤ 100):duOk (Lib.decDigits u) = true:=by
 have hl:(Lib.decDigits u).length ≤ 3:=Fx.dec_le 2 u (by omega)
 refine duOk_to ?_ hl (Fx.dgs_dec u) (Or.inr (Fx.head_dec h0)) (by rw [Fx.rd_dec];exact h0) (by rw [Fx.rd_dec];exact h1)
 cases h:Lib.decDigits u with
 | nil=>exact absurd h (Fx.dec_ne u)
 | cons c r=>simp
theorem du_atoi {s:Str} {v:Int} (hp:Lib.itoa v = s) (h0:1 ≤ v) (h1:v ≤ 100):duOk s = true ∧ (Fx.rd s:Int) = v:=by
 obtain ⟨u,rfl⟩:∃ u:Nat,v = u:=⟨v.toNat,by omega⟩
 rw [Lib.itoa_nonneg] at hp
 subst hp
 exact ⟨du_dec (by omega) (by omega),by rw [Fx.rd_dec]⟩
theorem du_no {s:Str} (h:duOk s = false) {v:Int} (hp:Lib.itoa v = s):v < 1 ∨ 100 < v:=by
 by_cases h0:1 ≤ v
 ·
  by_cases h1:v ≤ 100
  ·
   rw [(du_atoi hp h0 h1).1] at h;cases h
  omega
 omega
/-! ### How long a number is printed -/
theorem frac_le {r j x:Nat} (h:r < 1000000) (hj:j ≤ 6) (e:r = x * 10 ^ (6 - j)):(Fx.fracT r).length ≤ j:=by
 obtain ⟨f1,f2,f3,f4⟩:=Fx.frac_facts h
 by_cases hle:(Fx.fracT r).length ≤ j
 ·
  exact hle
 exfalso
 generalize Fx.fracT r = F at *
 have hne:F ≠ []:=fun e=>by subst e;simp at hle
 obtain ⟨l,c,rfl⟩:∃ l c,F = l ++ [c]:=⟨F.dropLast,F.getLast hne,(List.dropLast_concat_getLast hne).symm⟩
 rw [Fx.dgs_snoc,Bool.and_eq_true] at f1
 obtain ⟨hc1,hc2⟩:=zif f1.2
 rw [Fx.rd_snoc] at f3
 have hl:(l ++ [c]).length = l.length + 1:=by simp
 rw [hl] at f2 f3 hle
 have hp:10 ^ (6 - j) = 10 ^ (6 - (l.length + 1)) * 10 ^ (l.length + 1 - j):=by rw [← Nat.pow_add];congr 1;omega
 rw [e,hp,Nat.mul_comm (10 ^ (6 - (l.length + 1))),← Nat.mul_assoc] at f3
 have hpos:0 < 10 ^ (6 - (l.length + 1)):=Nat.pow_pos (by omega)
 have f3:=Nat.eq_of_mul_eq_mul_right hpos f3
 have h10:10 ^ (l.length + 1 - j) = 10 * 10 ^ (l.length - j):=by
  rw [show l.length + 1 - j = (l.length - j) + 1 by omega,Nat.pow_succ,Nat.mul_comm]
 rw [h10,← Nat.mul_assoc,Nat.mul_comm x 10,Nat.mul_assoc] at f3
 have h0:c.toNat - 48 = 0:=by omega
 rw [h0] at hc1
 apply f4
 rw [hc1]
 simp
theorem num_facts {s:Str} {v:Int} (hd:digB (s.headD 0) = true) (h:Fx.fParse s = some (some v)):0 ≤ v ∧ v ≤ 9223372036854775807 ∧ (Fx.fPrint (some v)).length ≤ s.length:=by
 cases s with
 | nil=>exact absurd hd (by decide)
 | cons c r=>
  have hc:digB c = true:=hd
  have c1:c ≠ 111:=fun e=>by subst e;exact absurd hc (by decide)
  have c2:c ≠ 45:=fun e=>by subst e;exact absurd hc (by decide)
  rw [Fx.gP_parse (by simp [c1])] at h
  have e1:Fx.mns (c :: r) = false:=by simp [Fx.mns,c2]
  have e2:Fx.bare (c :: r) = c :: r:=by unfold Fx.bare;rw [e1];rfl
  rw [e1,e2] at h
  generalize c :: r = s at *
  clear e1 e2
  unfold Fx.gP at h
  split at h
  ·
   rename_i hok
   rw [Bool.and_eq_true] at hok
   obtain ⟨hw,hdd⟩:=hok
   injection h with h
   have hwd:1 ≤ (Fx.cutP s).1.length ∧ (Fx.cutP s).1.length ≤ 13 ∧ Fx.dgs (Fx.cutP s).1 = true:=Fx.whole_of hw
   have hwh:(Fx.cutP s).1.length = 1 ∨ (Fx.cutP s).1.head? ≠ some 48:=by
    unfold Fx.fWhole at hw
    rw [Bool.and_eq_true,Bool.or_eq_true,decide_eq_true_iff,decide_eq_true_iff] at hw
    exact hw.2
   have hne:(Fx.cutP s).1 ≠ []:=fun e=>by rw [e] at hwd;simp at hwd
   have hdec:=dec_rd _ (Fx.cutP s).1 rfl hwd.2.2 hne hwh
   have fin:∀ m:Nat,Fx.sgn false m = some v → m ≤ 9223372036854775807 ∧ v = m:=fun m hm=>by
    unfold Fx.sgn at hm
    split at hm
    ·
     cases hm
    injection hm with hm
    exact ⟨by omega,by rw [← hm];rfl⟩
   obtain ⟨hm,rfl⟩:=fin _ h
   clear fin h
   have hpr:∀ m:Nat,Fx.fPrint (some (m:Int)) = Fx.prU m:=fun m=>by
    show (if (m:Int) < 0 then [45] else []) ++ Fx.prU (m:Int).natAbs = _
    rw [if_neg (by omega)]
    simp
   refine ⟨by omega,by omega,?_⟩
   rw [hpr]
   rcases Fx.cut_index s with ⟨ec,_⟩ | ⟨i,hi,_,ec⟩
   ·
    rw [ec] at hdec hm ⊢
    simp only [List.append_nil,List.length_nil,Nat.sub_zero] at hm ⊢ hdec
    unfold Fx.prU
    have e3:Fx.rd s * 10 ^ 6 / 1000000 = Fx.rd s:=by omega
    have e4:Fx.rd s * 10 ^ 6 % 1000000 = 0:=by omega
    rw [e3,e4,hdec]
    simp
   rw [ec] at hdec hm hwd hdd ⊢
   simp only [Bool.not_true,Bool.false_or] at hdd
   simp only at hm hdec hwd ⊢
   obtain ⟨d1,d2,d3⟩:=Fx.digits_of hdd
   have hle:=Fx.rd_lt (s.drop (i + 1)).length (s.drop (i + 1)) d3 (Nat.le_refl _)
   rw [List.take_of_length_le (Nat.le_refl _)] at hle
   have hsl:s.length = i + 1 + (s.drop (i + 1)).length:=by simp;omega
   have htl:(s.take i).length = i:=by simp;omega
   rw [Fx.rd_append,Nat.add_mul,Nat.mul_assoc,← Nat.pow_add,show (s.drop (i + 1)).length + (6 - (s.drop (i + 1)).length) = 6 by omega]
   generalize s.drop (i + 1) = D at *
   have hx:Fx.rd D * 10 ^ (6 - D.length) < 1000000:=by
    have:Fx.rd D * 10 ^ (6 - D.length) < 10 ^ D.length * 10 ^ (6 - D.length):=Nat.mul_lt_mul_of_pos_right hle (Nat.pow_pos (by omega))
    rw [← Nat.pow_add,show D.length + (6 - D.length) = 6 by omega] at this
    exact this
   have hf:=frac_le hx d2 rfl
   generalize Fx.rd D * 10 ^ (6 - D.length) = X at *
   unfold Fx.prU
   have e3:(Fx.rd (s.take i) * 10 ^ 6 + X) / 1000000 = Fx.rd (s.take i):=by omega
   have e4:(Fx.rd (s.take i) * 10 ^ 6 + X) % 1000000 = X:=by omega
   rw [e3,e4,hdec,List.length_append,htl]
   split
   ·
    simp;omega
   simp;omega
  cases h
def prT (x:Tk):Str:=if x.k = 1 ∨ x.k = 5 then x.t else if x.k = 2 then Fx.fPrint (Fx.cnt x.o x.n) else if x.k = 3 then Lib.itoa x.d ++ [116] else if x.k = 4 then [34] ++ esc x.t ++ [34] else []
def Okt (x:Tk):Prop:=(∃ s,fName s = true ∧ x = tIdent s) ∨ (∃ v:Int,0 ≤ v ∧ v ≤ 9223372036854775807 ∧ x = tNum v) ∨ (∃ n:Nat,1 ≤ n ∧ n ≤ 100 ∧ x = tDur n) ∨ (∃ s:Str,s.length ≤ 30 ∧ s.contains 10 = false ∧ x = tText s) ∨ (∃ s,isSg s = true ∧ x = tSign s)
theorem pr_ident (s:Str):prT (tIdent s) = s:=rfl
theorem pr_sign (s:Str):prT (tSign s) = s:=rfl
theorem pr_text (s:Str):prT (tText s) = [34] ++ esc s ++ [34]:=rfl
theorem pr_dur (n:Nat):prT (tDur n) = Lib.decDigits n ++ [116]:=by
 show Lib.itoa (n:Int) ++ [116] = _
 rw [Lib.itoa_nonneg]
theorem pr_num {v:Int} (h0:0 ≤ v):prT (tNum v) = Fx.prU v.toNat:=by
 show Fx.fPrint (Fx.cnt false v) = _
 have e:Fx.cnt false v = some v:=by
  unfold Fx.cnt
  rw [if_neg]
  intro e
  rcases e with e | e
  ·
   cases e
  omega
 rw [e]
 show (if v < 0 then [45] else []) ++ Fx.prU v.natAbs = _
 rw [if_neg (by omega),show v.natAbs = v.toNat by omega]
 rfl
theorem fpr_num {v:Int} (h0:0 ≤ v):Fx.fPrint (some v) = Fx.prU v.toNat:=by
 show (if v < 0 then [45] else []) ++ Fx.prU v.natAbs = _
 rw [if_neg (by omega),show v.natAbs = v.toNat by omega]
 rfl
/-! ### A text behind its quote -/
theorem zic:∀ (k:Nat) (s:Str),s.length ≤ k → ∀ x,qd s = some x → x.2 ≤ s.length ∧ x.1.contains 10 = false ∧ (esc x.1).length + 1 = x.2
 | _,[],_,x,e=>by cases e
 | 0,c :: r,h,x,e=>by simp at h
 | k + 1,c :: r,h,x,e=>by
  rw [List.length_cons] at h
  by_cases h1:c = 34
  ·
   subst h1
   rw [zmw] at e
   cases e
   simp [esc]
  by_cases h2:c = 92
  ·
   subst h2
   cases r with
   | nil=>rw [qd] at e;simp at e
   | cons d r2=>
    by_cases h3:d = 34 ∨ d = 92
    ·
     rw [qd_back _ h3,Option.map_eq_some_iff] at e
     obtain ⟨y,hy,rfl⟩:=e
     obtain ⟨a1,a2,a3⟩:=zic k r2 (by rw [List.length_cons] at h;omega) y hy
     refine ⟨by simp only [List.length_cons];omega,?_,?_⟩
     ·
      rw [List.contains_cons,a2]
      rcases h3 with rfl | rfl <;> decide
     show (escC d ++ esc y.1).length + 1 = _
     unfold escC
     rw [if_pos (Or.comm.1 h3),List.length_append,← a3]
     simp
     omega
    rw [zhb _ h3] at e
    cases e
  by_cases h3:c = 10
  ·
   subst h3
   rw [qd_line] at e
   cases e
  rw [zmx _ h1 h2 h3,Option.map_eq_some_iff] at e
  obtain ⟨y,hy,rfl⟩:=e
  obtain ⟨a1,a2,a3⟩:=zic k r (by omega) y hy
  refine ⟨by simp only [List.length_cons];omega,?_,?_⟩
  ·
   rw [List.contains_cons,a2]
   simp
   exact fun e=>h3 e.symm
  show (escC c ++ esc y.1).length + 1 = _
  unfold escC
  rw [if_neg (by rintro (e | e);exact h2 e;exact h1 e),List.length_append,← a3]
  simp
  omega
/-! ### What a text begins with is a sign within its bounds, and no longer printed than written -/
theorem zgy {s:Str} (h:isSg s = true):s = [40] ∨ s = [41] ∨ s = [123] ∨ s = [125] ∨ s = [91] ∨ s = [93] ∨ s = [44] ∨ s = [43] ∨ s = [45] ∨ s = [42] ∨ s = [47] ∨ s = [61] ∨ s = [94,61] ∨ s = [42,61] ∨ s = [33,61] ∨ s = [61,61] ∨ s = [62] ∨ s = [60] ∨ s = [62,61] ∨ s = [60,61]:=by
 unfold isSg signs at h
 simpa using h
theorem zfn {s:Str} (h:isSg s = true):1 ≤ s.length ∧ s.length ≤ 2:=by
 rcases zgy h with rfl | rfl | rfl | rfl | rfl | rfl | rfl | rfl | rfl | rfl | rfl | rfl | rfl | rfl | rfl | rfl | rfl | rfl | rfl | rfl <;> decide
theorem ziu {s:Str} {x:Tk} {k:Nat} (hs:s ≠ []) (h:tok s = some (x,k)):1 ≤ k ∧ k ≤ s.length ∧ Okt x ∧ (prT x).length ≤ k:=by
 have hl:1 ≤ s.length:=by
  cases s with
  | nil=>exact absurd rfl hs
  | cons c r=>simp
 unfold tok at h
 split at h
 ·
  rename_i hd
  have hg:1 ≤ dgN s:=by
   cases s with
   | nil=>exact absurd rfl hs
   | cons c r=>
    unfold dgN
    rw [List.takeWhile_cons_of_pos (show digB c = true from hd)]
    simp
  have hgl:=zno s
  unfold tkAmt at h
  split at h
  ·
   rename_i ht
   unfold tkDur at h
   split at h
   ·
    rename_i ho
    injection h with h
    injection h with h1 h2
    subst h1 h2
    obtain ⟨a1,a2,a3,a4,a5,a6⟩:=zls ho
    have hlt:dgN s < s.length:=by
     cases e:s.drop (dgN s) with
     | nil=>rw [e] at ht;cases ht
     | cons c r=>
      have:=congrArg List.length e
      simp at this
      omega
    refine ⟨by omega,by simp;omega,Or.inr (Or.inr (Or.inl ⟨_,a5,a6,rfl⟩)),?_⟩
    rw [pr_dur,dec_rd _ _ rfl a3 (fun e=>by rw [e] at a1;simp at a1) a4]
    simp
   cases h
  have hdl:=decN_le (s.drop (dgN s))
  have hL:(s.take (dgN s + decN (s.drop (dgN s)))).length = dgN s + decN (s.drop (dgN s)):=by simp at *;omega
  have hh:(s.take (dgN s + decN (s.drop (dgN s)))).headD 0 = s.headD 0:=by
   cases s with
   | nil=>exact absurd rfl hs
   | cons c r=>
    obtain ⟨j,hj⟩:∃ j,dgN (c :: r) + decN ((c :: r).drop (dgN (c :: r))) = j + 1:=⟨dgN (c :: r) + decN ((c :: r).drop (dgN (c :: r))) - 1,by omega⟩
    rw [hj]
    rfl
  unfold tkNum at h
  split at h
  ·
   rename_i v hv
   injection h with h
   injection h with h1 h2
   subst h1 h2
   obtain ⟨n1,n2,n3⟩:=num_facts (by rw [hh];exact hd) hv
   refine ⟨by omega,by rw [hL];simp at hdl;omega,Or.inr (Or.inl ⟨v,n1,n2,rfl⟩),?_⟩
   rw [pr_num n1,← fpr_num n1]
   exact n3
  cases h
 split at h
 ·
  rename_i hd hn
  unfold tkId at h
  split at h
  ·
   rename_i hf
   injection h with h
   injection h with h1 h2
   subst h1 h2
   have hk:=zcz hf
   exact ⟨hk.1,by rw [List.length_take];exact Nat.min_le_right _ _,Or.inl ⟨_,hf,rfl⟩,by rw [pr_ident];omega⟩
  cases h
 split at h
 ·
  unfold tkTx at h
  split at h
  ·
   rename_i y hy
   split at h
   ·
    rename_i hle
    injection h with h
    injection h with h1 h2
    subst h1 h2
    obtain ⟨q1,q2,q3⟩:=zic _ s.tail (Nat.le_refl _) y hy
    simp at q1
    exact ⟨by omega,by omega,Or.inr (Or.inr (Or.inr (Or.inl ⟨_,hle,q2,rfl⟩))),by rw [pr_text];simp;omega⟩
   cases h
  cases h
 unfold tkSg at h
 split at h
 ·
  rename_i h2
  injection h with h
  injection h with h3 h4
  subst h3 h4
  exact ⟨by omega,h2.1,Or.inr (Or.inr (Or.inr (Or.inr ⟨_,h2.2,rfl⟩))),by rw [pr_sign];simp;omega⟩
 split at h
 ·
  rename_i h2
  injection h with h
  injection h with h3 h4
  subst h3 h4
  exact ⟨by omega,hl,Or.inr (Or.inr (Or.inr (Or.inr ⟨_,h2,rfl⟩))),by rw [pr_sign];simp;omega⟩
 cases h
/-! ### What stands behind a blank changes nothing -/
/-! ### What is printed is read -/
theorem zee (s:Str) (w:World):Calls Tryz.prog 123 #[tx s] w fun e w'=>e = .returned (tx (lead s)) ∧ Below w.heap.size w w':=by
 have h:=Tryz.x_strings_TrimLeft ⟨s.toArray⟩ ⟨#[32,9]⟩ w (by decide) (ascii_of_all (by decide))
 have e:Lib.trimLeftS s [32,9] = lead s:=rfl
 have h':Calls Tryz.prog 194 #[tx s,.string ⟨#[32,9]⟩] w fun e w'=>e = .returned (tx (lead s)) ∧ Below w.heap.size w w':=h
 clear h e
 generalize lead s = r at *
 go_enter Tryz.func123,Tryz.ntmps123
 go_wp2_with fail
 refine h'.mono ?_
 rintro e w1 ⟨rfl,hb1⟩
 go_wp2_with fail
 go_ret
 exact ⟨rfl,hb1⟩
theorem zeo (c:UInt8) (w:World):Calls Tryz.prog 195 #[.int .u8 c.toNat] w fun e w'=>e = .returned (.bool (digB c)) ∧ w = w':=by
 unfold digB
 go_enter Tryz.func195,Tryz.ntmps195
 go_wp2
 all_goals
  go_ret
  exact ⟨zdl (by rw [Bool.eq_iff_iff];simp;omega),rfl⟩
theorem zis (c:UInt8) (w:World):Calls Tryz.prog 197 #[.int .u8 c.toNat] w fun e w'=>e = .returned (.bool (nameCh c)) ∧ w = w':=by
 have hd:=fun W=>zeo c W
 cases hdc:digB c with
 | true=>
  rw [hdc] at hd
  have HN:Hid (nameCh c = true):=by show _ = _;unfold nameCh;rw [hdc];rfl
  clear hdc
  go_enter Tryz.func197,Tryz.ntmps197
  go_wp2_with fail
  refine (hd _).mono ?_
  rintro e w1 ⟨rfl,rfl⟩
  go_wp2
  go_ret
  exact ⟨zdl HN.out.symm,rfl⟩
 | false=>
  rw [hdc] at hd
  have HN:Hid (nameCh c = (letB c || decide (c.toNat = 95))):=by show _ = _;unfold nameCh;rw [hdc];rfl
  clear hdc
  go_enter Tryz.func197,Tryz.ntmps197
  go_wp2_with fail
  refine (hd _).mono ?_
  rintro e w1 ⟨rfl,rfl⟩
  go_wp2
  all_goals
   go_ret
   exact ⟨zdl (by rw [HN.out,Bool.eq_iff_iff];unfold letB;simp;omega),rfl⟩
theorem run_any (p:UInt8 → Bool) (g:Nat) (s:Str) (w:World) (hs:s.length ≤ 1000000) (eg:∀ args w,(callFunc g args).run Tryz.prog w = .ok (.enter g args) w)
  (hp:∀ c W,Calls Tryz.prog g #[.int .u8 c.toNat] W fun e w'=>e = .returned (.bool (p c)) ∧ W = w') :
  Calls Tryz.prog 199 #[tx s,.func (.func g) #[] #[]] w fun e w'=>e = .returned (.int .i64 ((s.takeWhile p).length:Nat)) ∧ w = w':=by
 have HP:Aside _:=hp
 clear hp
 go_enter Tryz.func199,Tryz.ntmps199
 go_wp2_with fail
 go_loop [5] (fun i=>∃ k:Nat,k ≤ s.length ∧ i = .int .i64 k ∧ Hid (∀ i (hi:i < s.length),i < k → p s[i] = true)) (fun i=>s.length - (intOf i).toNat)
 case atStart=>exact ⟨0,by omega,rfl,fun i h h2=>by omega⟩
 case round=>
  obtain ⟨k,hk,rfl,ha⟩:=hrel
  by_cases hlt:k < s.length
  ·
   have hbk:=zed hlt
   have HC:Hid (s[k] = (⟨s.toArray⟩:ByteArray)[k]'hbk):=rfl
   cases hc:p ((⟨s.toArray⟩:ByteArray)[k]'hbk) with
   | true=>
    have HR:Hid (∀ i (hi:i < s.length),i < k + 1 → p s[i] = true):=fun i hi h=>by
     by_cases e:i = k
     ·
      subst e;rw [HC.out];exact hc
     exact ha.out i hi (by omega)
    clear ha HC
    go_wp2_with (go_at_fn g;refine (HP.out _ _).mono ?_;rw [hc];rintro e w' ⟨rfl,rfl⟩)
    go_round
    case rel=>exact ⟨k + 1,by omega,by go_num,HR⟩
    case measure=>simp [intOf];omega
   | false=>
    have HR:Hid ((s.takeWhile p).length = k):=run_len hk ha.out (fun _=>by rw [HC.out];exact hc)
    clear ha HC
    go_wp2_with (go_at_fn g;refine (HP.out _ _).mono ?_;rw [hc];rintro e w' ⟨rfl,rfl⟩)
    go_ret
    exact ⟨by rw [HR.out];rfl,rfl⟩
  have HR:Hid ((s.takeWhile p).length = k):=run_len hk ha.out (fun h=>absurd h hlt)
  clear ha
  go_wp2_with fail
  go_ret
  exact ⟨by rw [HR.out];rfl,rfl⟩
theorem enters25:∀ args w,(callFunc 195 args).run Tryz.prog w = .ok (.enter 195 args) w:=enters_of Tryz.func195 (by kernel_rfl) rfl
theorem enters27:∀ args w,(callFunc 197 args).run Tryz.prog w = .ok (.enter 197 args) w:=enters_of Tryz.func197 (by kernel_rfl) rfl
theorem zmq (s:Str) (w:World) (hs:s.length ≤ 1000000):Calls Tryz.prog 199 #[tx s,.func (.func 195) #[] #[]] w fun e w'=>e = .returned (.int .i64 (dgN s:Nat)) ∧ w = w':=run_any digB 195 s w hs enters25 zeo
theorem runN_any (s:Str) (w:World) (hs:s.length ≤ 1000000):Calls Tryz.prog 199 #[tx s,.func (.func 197) #[] #[]] w fun e w'=>e = .returned (.int .i64 (idN s:Nat)) ∧ w = w':=run_any nameCh 197 s w hs enters27 zis
theorem has_head (s:Str) (c:UInt8):Lib.hasPrefix s [c] = decide (s.head? = some c):=by
 unfold Lib.hasPrefix
 cases s with
 | nil=>rfl
 | cons a r=>
  rw [Bool.eq_iff_iff]
  simp [List.isPrefixOf]
  exact eq_comm
theorem zek (s:Str) (c:UInt8) (w:World):Calls Tryz.prog 237 #[tx s,.string ⟨#[c]⟩] w fun e w'=>e = .returned (.bool (decide (s.head? = some c))) ∧ w = w':=by
 refine (Tryz.x_strings_HasPrefix ⟨s.toArray⟩ ⟨#[c]⟩ w).mono ?_
 rintro e w' ⟨rfl,rfl⟩
 refine ⟨?_,rfl⟩
 show Ending.returned (.bool (Lib.hasPrefix s [c])) = _
 rw [has_head]
theorem zkd (s:Str) (w:World) (hs:s.length ≤ 1000000):Calls Tryz.prog 259 #[tx s] w fun e w'=>e = .returned (.int .i64 (decN s:Nat)) ∧ w = w':=by
 have hp:=fun W=>zek s 46 W
 by_cases h:s.head? = some 46
 ·
  have hl:1 ≤ s.length:=by
   cases s with
   | nil=>cases h
   | cons c r=>simp
  have ht:s.tail.length ≤ 1000000:=by simp;omega
  have hr:=fun W=>zmq s.tail W ht
  have hex:(⟨s.toArray⟩:ByteArray).extract 1 s.length = ⟨s.tail.toArray⟩:=by rw [zey,List.drop_one]
  have hl':(1:Int) ≤ s.length:=by omega
  rw [decide_eq_true h] at hp
  have hd:=zno s.tail
  by_cases h0:dgN s.tail = 0
  ·
   have HD:Hid (decN s = 0):=by show _ = _;unfold decN;rw [if_pos h,if_pos h0]
   have h0':((dgN s.tail:Int) == 0) = true:=by rw [h0];rfl
   clear h0 h hd
   generalize dgN s.tail = k at *
   go_enter Tryz.func259,Tryz.ntmps259
   go_wp2_with fail
   refine (hp _).mono ?_
   rintro e w1 ⟨rfl,rfl⟩
   go_wp2_with fail
   refine (hr _).mono ?_
   rintro e w1 ⟨rfl,rfl⟩
   go_wp2
   go_ret
   exact ⟨by rw [HD.out];rfl,rfl⟩
  have HD:Hid (decN s = 1 + dgN s.tail):=by show _ = _;unfold decN;rw [if_pos h,if_neg h0]
  have h0':((dgN s.tail:Int) == 0) = false:=by rw [beq_eq_false_iff_ne];omega
  clear h0 h
  generalize dgN s.tail = k at *
  go_enter Tryz.func259,Tryz.ntmps259
  go_wp2_with fail
  refine (hp _).mono ?_
  rintro e w1 ⟨rfl,rfl⟩
  go_wp2_with fail
  refine (hr _).mono ?_
  rintro e w1 ⟨rfl,rfl⟩
  go_wp2
  go_ret
  exact ⟨by rw [HD.out];go_num,rfl⟩
 have HD:Hid (decN s = 0):=by show _ = _;unfold decN;rw [if_neg h]
 rw [decide_eq_false h] at hp
 clear h
 go_enter Tryz.func259,Tryz.ntmps259
 go_wp2_with fail
 refine (hp _).mono ?_
 rintro e w1 ⟨rfl,rfl⟩
 go_wp2
 go_ret
 exact ⟨by rw [HD.out];rfl,rfl⟩
abbrev rt (o:Option (Tk × Nat)):Value:=.tuple #[tv (o.getD (tk0,0)).1,.int .i64 ((o.getD (tk0,0)).2:Nat)]
theorem zgr (s:Str) (w:World) (hs:s.length ≤ 1000000):Calls Tryz.prog 198 #[tx s] w fun e w'=>e = .returned (rt (tkId s)) ∧ Below w.heap.size w w':=by
 have hn:=fun W=>zbx s W (by omega)
 have hb0:Below w.heap.size w (w.alloc (.cells #[.int .i64 0,.int .i64 0,.string ⟨#[]⟩,.bool false,.int .i64 0,.int .i64 0] 161)):=bal (Below.refl _ _) _
 cases h:fName s with
 | true=>
  rw [h] at hn
  have HR:Hid (tkId s = some (tIdent s,s.length)):=by show _ = _;unfold tkId;rw [if_pos h]
  clear h
  go_enter Tryz.func198,Tryz.ntmps198
  go_wp2_with fail
  refine (hn _).mono ?_
  rintro e w1 ⟨rfl,rfl⟩
  go_wp2
  exact bodyPost_ret (v:=.tuple #[.agg #[.int .i64 1,.int .i64 0,tx s,.bool false,.int .i64 0,.int .i64 0],.int .i64 s.length]) (by simp [results,Tryz.results198,go_sem]) rfl ⟨by rw [HR.out];rfl,bal (Below.refl _ _) _⟩
 | false=>
  rw [h] at hn
  have HR:Hid (tkId s = none):=by show _ = _;unfold tkId;rw [if_neg (by simp [h])]
  clear h
  go_enter Tryz.func198,Tryz.ntmps198
  go_wp2_with fail
  refine (hn _).mono ?_
  rintro e w1 ⟨rfl,rfl⟩
  go_wp2
  exact bodyPost_ret (v:=.tuple #[.agg #[.int .i64 0,.int .i64 0,.string ⟨#[]⟩,.bool false,.int .i64 0,.int .i64 0],.int .i64 0]) (by simp [results,Tryz.results198,go_sem]) rfl ⟨by rw [HR.out];rfl,bal (Below.refl _ _) _⟩
theorem zde {o:Option (Tk × Nat)} {y:Tk × Nat} (h:o.getD (tk0,0) = y):rt o = .tuple #[tv y.1,.int .i64 (y.2:Nat)]:=by rw [← h]
theorem zkl (s:Str) (w:World) (hs:s.length ≤ 1000):Calls Tryz.prog 258 #[tx s] w fun e w'=>e = .returned (rt (tkNum s)) ∧ Below w.heap.size w w':=by
 have hb0:Below w.heap.size w (w.alloc (.cells #[.int .i64 0,.int .i64 0,.string ⟨#[]⟩,.bool false,.int .i64 0,.int .i64 0] 161)):=bal (Below.refl _ _) _
 have hx:=BoxT.new0 w
 have hp:=Fx.parse_any s (w.alloc (.cells #[.int .i64 0,.int .i64 0,.string ⟨#[]⟩,.bool false,.int .i64 0,.int .i64 0] 161)) hs
 cases h:Fx.fParse s with
 | none=>
  rw [h] at hp
  have HR:Hid ((tkNum s).getD (tk0,0) = (tk0,0)):=by show _ = _;unfold tkNum;rw [h];rfl
  clear h
  simp only [Fx.po,Fx.pn,Fx.pe] at hp
  go_enter Tryz.func258,Tryz.ntmps258
  go_wp2_with fail
  refine hp.mono ?_
  rintro e w1 ⟨rfl,hb1⟩
  obtain ⟨c0,c1,c2,c3,c4,c5,f0,f1,f2,f3,f4,f5⟩:=(hx.later hb1).later (bal (Below.refl _ _) (.cells #[.bool false,.int .i64 0] 23))
  go_wp2
  exact bodyPost_ret (v:=.tuple #[.agg #[.int .i64 0,.int .i64 0,.string ⟨#[]⟩,.bool false,.int .i64 0,.int .i64 0],.int .i64 0]) (by simp [results,Tryz.results258,go_sem,c0,c1,c2,c3,c4,c5]) rfl ⟨by rw [zde HR.out];rfl,zbu (bal (Below.chain hb0 hb1) _) (Nat.le_refl _) _ _ _ _ _ _⟩
 | some r=>
  rw [h] at hp
  cases r with
  | none=>
   have HR:Hid ((tkNum s).getD (tk0,0) = (tk0,0)):=by show _ = _;unfold tkNum;rw [h];rfl
   clear h
   simp only [Fx.po,Fx.pn,Fx.pe,Fx.ov,Fx.nn] at hp
   go_enter Tryz.func258,Tryz.ntmps258
   go_wp2_with fail
   refine hp.mono ?_
   rintro e w1 ⟨rfl,hb1⟩
   obtain ⟨c0,c1,c2,c3,c4,c5,f0,f1,f2,f3,f4,f5⟩:=(hx.later hb1).later (bal (Below.refl _ _) (.cells #[.bool true,.int .i64 0] 23))
   go_wp2
   exact bodyPost_ret (v:=.tuple #[.agg #[.int .i64 0,.int .i64 0,.string ⟨#[]⟩,.bool false,.int .i64 0,.int .i64 0],.int .i64 0]) (by simp [results,Tryz.results258,go_sem,c0,c1,c2,c3,c4,c5]) rfl ⟨by rw [zde HR.out];rfl,zbu (bal (Below.chain hb0 hb1) _) (Nat.le_refl _) _ _ _ _ _ _⟩
  | some v=>
   have HR:Hid ((tkNum s).getD (tk0,0) = (tNum v,s.length)):=by show _ = _;unfold tkNum;rw [h];rfl
   clear h
   simp only [Fx.po,Fx.pn,Fx.pe,Fx.ov,Fx.nn] at hp
   go_enter Tryz.func258,Tryz.ntmps258
   go_wp2_with fail
   refine hp.mono ?_
   rintro e w1 ⟨rfl,hb1⟩
   obtain ⟨c0,c1,c2,c3,c4,c5,f0,f1,f2,f3,f4,f5⟩:=(hx.later hb1).later (bal (Below.refl _ _) (.cells #[.bool false,.int .i64 v] 23))
   go_wp2
   exact bodyPost_ret (v:=.tuple #[.agg #[.int .i64 2,.int .i64 0,.string ⟨#[]⟩,.bool false,.int .i64 v,.int .i64 0],.int .i64 s.length]) (by simp [results,Tryz.results258,go_sem,c0,c1,c2,c3,c4,c5]) rfl ⟨by rw [zde HR.out];rfl,zbu (bal (Below.chain hb0 hb1) _) (Nat.le_refl _) _ _ _ _ _ _⟩
/-! ### Durations -/
theorem znd (n:Int) (w:World) (h0:-9223372036854775808 ≤ n) (h1:n ≤ 9223372036854775807) (ht:Fx.Tab Tryz.prog w):Calls Tryz.prog 252 #[.int .i64 n] w fun e w'=>e = .returned (tx (Lib.itoa n)) ∧ Below w.heap.size w w':=by
 refine (Tryz.x_strconv_Itoa n h0 h1 w ht).mono ?_
 rintro e w' ⟨rfl,k,os,rfl⟩
 exact ⟨rfl,Fx.below_grow w k os⟩
theorem zfa (w:World) (t:TypeId) (s:ByteArray):Below w.heap.size w (Lib.bytesWorld w t s):=Lib.bytesWorld_below _ _ _
theorem zma (s:Str) (v:Int) (w:World) (hs:s.length ≤ 1000000) (h:Lib.atoiAll s = .ok v):Calls Tryz.prog 234 #[tx s] w fun e w'=>e = .returned (.tuple #[.int .i64 v,.nilIface]) ∧ Below w.heap.size w w':=by
 refine (Tryz.x_strconv_Atoi_ok ⟨s.toArray⟩ (by rw [zau];omega) v h w).mono ?_
 rintro e w' ⟨rfl,h⟩
 refine ⟨rfl,?_⟩
 rcases h with rfl | ⟨t,rfl⟩
 ·
  exact Below.refl _ _
 exact zfa _ _ _
theorem atoi_no (s:Str) (w:World) (hs:s.length ≤ 1000000) (h:∀ v,Lib.atoiAll s ≠ .ok v) (he:Ev w):Calls Tryz.prog 234 #[tx s] w fun e w'=>∃ v t a,e = .returned (.tuple #[.int .i64 v,.iface t (.pointer (some a))]) ∧ Below w.heap.size w w':=by
 cases hc:Lib.atoiAll s with
 | ok v=>exact absurd hc (h v)
 | «syntax»=>
  obtain ⟨ev,h1,h2⟩:=he.e2
  refine (Tryz.x_strconv_Atoi_syntax ⟨s.toArray⟩ (by rw [zau];omega) hc ev w h1 h2).mono ?_
  rintro e w' ⟨N,rfl,_,_,hb⟩
  exact ⟨_,_,_,rfl,hb⟩
 | range=>
  obtain ⟨ev,h1,h2⟩:=he.e3
  refine (Tryz.x_strconv_Atoi_range ⟨s.toArray⟩ (by rw [zau];omega) hc ev w h1 h2).mono ?_
  rintro e w' ⟨N,rfl,_,_,hb⟩
  exact ⟨_,_,_,rfl,hb⟩
theorem zct (n:Int) (w:World) (h0:-9223372036854775808 ≤ n) (h1:n ≤ 9223372036854775807) (ht:Fx.Tab Tryz.prog w):Calls Tryz.prog 272 #[.int .i64 n] w fun e w'=>e = .returned (tx (Lib.itoa n ++ [116])) ∧ Below w.heap.size w w':=by
 have hi:=znd n w h0 h1 ht
 have hl:=Lib.itoa_length_le n h0 h1
 generalize Lib.itoa n = t at *
 have a1:(⟨t.toArray⟩:ByteArray) ++ ⟨#[116]⟩ = ⟨(t ++ [116]).toArray⟩:=zbc t [116]
 obtain ⟨r,hr⟩:∃ r,r = t ++ [116]:=⟨_,rfl⟩
 rw [← hr] at a1 ⊢
 clear hr
 go_enter Tryz.func272,Tryz.ntmps272
 go_wp2_with fail
 refine hi.mono ?_
 rintro e w1 ⟨rfl,hb1⟩
 go_wp2_with fail
 go_ret
 exact ⟨rfl,hb1⟩
theorem zgn (u:Str) (w:World) (hs:u.length ≤ 1000000):Calls Tryz.prog 305 #[tx (u ++ [116]),.string ⟨#[116]⟩] w fun e w'=>e = .returned (tx u) ∧ w = w':=by
 have ht:Lib.trimSuffix (u ++ [116]) [116] = u:=by
  unfold Lib.trimSuffix
  rw [if_pos (by unfold Lib.hasSuffix;simp)]
  simp
 have hl:(u ++ [116]).length ≤ 9223372036854775807:=by simp;omega
 generalize u ++ [116] = s at *
 refine (Tryz.x_strings_TrimSuffix ⟨s.toArray⟩ ⟨#[116]⟩ w (by rw [zau];exact hl)).mono ?_
 rintro e w' ⟨rfl,rfl⟩
 refine ⟨?_,rfl⟩
 show Ending.returned (.string ⟨(Lib.trimSuffix s [116]).toArray⟩) = _
 rw [ht]
theorem zkc (u:Str) (w:World) (hs:u.length ≤ 1000) (he:Ev w):Calls Tryz.prog 257 #[tx (u ++ [116])] w fun e w'=>e = .returned (rt (tkDur u)) ∧ Below w.heap.size w w':=by
 have hb0:Below w.heap.size w (w.alloc (.cells #[.int .i64 0,.int .i64 0,.string ⟨#[]⟩,.bool false,.int .i64 0,.int .i64 0] 161)):=bal (Below.refl _ _) _
 have hx:=BoxT.new0 w
 have he0:=he.later hb0
 have ht:=zgn u (w.alloc (.cells #[.int .i64 0,.int .i64 0,.string ⟨#[]⟩,.bool false,.int .i64 0,.int .i64 0] 161)) (by omega)
 have HL:Hid ((u ++ [116]).length = u.length + 1):=by show _ = _;simp
 cases hd:duOk u with
 | true=>
  obtain ⟨a1,a2⟩:=atoi_du hd
  obtain ⟨d1,d2,d3,d4,d5,d6⟩:=zls hd
  have HR:Hid ((tkDur u).getD (tk0,0) = (tDur (Fx.rd u:Nat),u.length + 1)):=by show _ = _;unfold tkDur;rw [if_pos hd];rfl
  have ha:=zma u _ (w.alloc (.cells #[.int .i64 0,.int .i64 0,.string ⟨#[]⟩,.bool false,.int .i64 0,.int .i64 0] 161)) (by omega) a1
  have hpd:=fun W (hW:Ev W)=>zct (Fx.rd u:Int) W (by omega) (by omega) hW.tab
  rw [a2] at hpd
  clear hd a1 a2 d1 d2 d3 d4
  generalize Fx.rd u = n at *
  obtain ⟨s,hsu⟩:∃ s,s = u ++ [116]:=⟨_,rfl⟩
  rw [← hsu] at ht hpd HL ⊢
  clear hsu
  go_enter Tryz.func257,Tryz.ntmps257
  go_wp2_with fail
  refine ht.mono ?_
  rintro e w1 ⟨rfl,rfl⟩
  go_wp2_with fail
  refine ha.mono ?_
  rintro e w1 ⟨rfl,hb1⟩
  go_wp2_with fail
  refine (hpd _ (he0.later hb1)).mono ?_
  rintro e w2 ⟨rfl,hb2⟩
  obtain ⟨c0,c1,c2,c3,c4,c5,f0,f1,f2,f3,f4,f5⟩:=(hx.later hb1).later hb2
  go_wp2
  exact bodyPost_ret (v:=.tuple #[.agg #[.int .i64 3,.int .i64 0,.string ⟨#[]⟩,.bool false,.int .i64 0,.int .i64 n],.int .i64 s.length]) (by simp [results,Tryz.results257,go_sem,c0,c1,c2,c3,c4,c5]) rfl ⟨by rw [zde HR.out,HL.out];rfl,zbu (Below.chain (Below.chain hb0 hb1) hb2) (Nat.le_refl _) _ _ _ _ _ _⟩
 | false=>
  have HR:Hid ((tkDur u).getD (tk0,0) = (tk0,0)):=by show _ = _;unfold tkDur;rw [if_neg (by simp [hd])];rfl
  by_cases hok:∃ v,Lib.atoiAll u = .ok v
  ·
   obtain ⟨v,hv⟩:=hok
   obtain ⟨b0,b1⟩:=Lib.atoiAll_bounds hv
   have ha:=zma u v (w.alloc (.cells #[.int .i64 0,.int .i64 0,.string ⟨#[]⟩,.bool false,.int .i64 0,.int .i64 0] 161)) (by omega) hv
   have hpd:=fun W (hW:Ev W)=>zct v W (by omega) (by omega) hW.tab
   by_cases hp:Lib.itoa v = u
   ·
    have hr:=du_no hd hp
    rw [hp] at hpd
    clear hd hv hp
    obtain ⟨s,hsu⟩:∃ s,s = u ++ [116]:=⟨_,rfl⟩
    rw [← hsu] at ht hpd ⊢
    clear hsu HL
    by_cases h1:v < 1
    ·
     clear hr
     go_enter Tryz.func257,Tryz.ntmps257
     go_wp2_with fail
     refine ht.mono ?_
     rintro e w1 ⟨rfl,rfl⟩
     go_wp2_with fail
     refine ha.mono ?_
     rintro e w1 ⟨rfl,hb1⟩
     go_wp2_with fail
     refine (hpd _ (he0.later hb1)).mono ?_
     rintro e w2 ⟨rfl,hb2⟩
     obtain ⟨c0,c1,c2,c3,c4,c5,f0,f1,f2,f3,f4,f5⟩:=(hx.later hb1).later hb2
     go_wp2
     exact bodyPost_ret (v:=.tuple #[.agg #[.int .i64 0,.int .i64 0,.string ⟨#[]⟩,.bool false,.int .i64 0,.int .i64 0],.int .i64 0]) (by simp [results,Tryz.results257,go_sem,c0,c1,c2,c3,c4,c5]) rfl ⟨by rw [zde HR.out];rfl,zbu (Below.chain (Below.chain hb0 hb1) hb2) (Nat.le_refl _) _ _ _ _ _ _⟩
    have h2:100 < v:=by omega
    clear hr
    go_enter Tryz.func257,Tryz.ntmps257
    go_wp2_with fail
    refine ht.mono ?_
    rintro e w1 ⟨rfl,rfl⟩
    go_wp2_with fail
    refine ha.mono ?_
    rintro e w1 ⟨rfl,hb1⟩
    go_wp2_with fail
    refine (hpd _ (he0.later hb1)).mono ?_
    rintro e w2 ⟨rfl,hb2⟩
    obtain ⟨c0,c1,c2,c3,c4,c5,f0,f1,f2,f3,f4,f5⟩:=(hx.later hb1).later hb2
    go_wp2
    exact bodyPost_ret (v:=.tuple #[.agg #[.int .i64 0,.int .i64 0,.string ⟨#[]⟩,.bool false,.int .i64 0,.int .i64 0],.int .i64 0]) (by simp [results,Tryz.results257,go_sem,c0,c1,c2,c3,c4,c5]) rfl ⟨by rw [zde HR.out];rfl,zbu (Below.chain (Below.chain hb0 hb1) hb2) (Nat.le_refl _) _ _ _ _ _ _⟩
   have hne:Lib.itoa v ++ [116] ≠ u ++ [116]:=fun e=>hp (List.append_cancel_right e)
   clear hd hv hp
   obtain ⟨s,hsu⟩:∃ s,s = u ++ [116]:=⟨_,rfl⟩
   obtain ⟨t,htu⟩:∃ t,t = Lib.itoa v ++ [116]:=⟨_,rfl⟩
   rw [← hsu] at ht hne ⊢
   rw [← htu] at hpd hne
   have hn1:(t != s) = true:=by rw [bne_iff_ne];exact hne
   have hn2:(t == s) = false:=by rw [beq_eq_false_iff_ne];exact hne
   clear hsu htu HL hne
   go_enter Tryz.func257,Tryz.ntmps257
   go_wp2_with fail
   refine ht.mono ?_
   rintro e w1 ⟨rfl,rfl⟩
   go_wp2_with fail
   refine ha.mono ?_
   rintro e w1 ⟨rfl,hb1⟩
   go_wp2_with fail
   refine (hpd _ (he0.later hb1)).mono ?_
   rintro e w2 ⟨rfl,hb2⟩
   obtain ⟨c0,c1,c2,c3,c4,c5,f0,f1,f2,f3,f4,f5⟩:=(hx.later hb1).later hb2
   go_wp2
   exact bodyPost_ret (v:=.tuple #[.agg #[.int .i64 0,.int .i64 0,.string ⟨#[]⟩,.bool false,.int .i64 0,.int .i64 0],.int .i64 0]) (by simp [results,Tryz.results257,go_sem,c0,c1,c2,c3,c4,c5]) rfl ⟨by rw [zde HR.out];rfl,zbu (Below.chain (Below.chain hb0 hb1) hb2) (Nat.le_refl _) _ _ _ _ _ _⟩
  have ha:=atoi_no u (w.alloc (.cells #[.int .i64 0,.int .i64 0,.string ⟨#[]⟩,.bool false,.int .i64 0,.int .i64 0] 161)) (by omega) (fun v hv=>hok ⟨v,hv⟩) he0
  clear hok hd
  obtain ⟨s,hsu⟩:∃ s,s = u ++ [116]:=⟨_,rfl⟩
  rw [← hsu] at ht ⊢
  clear hsu HL
  go_enter Tryz.func257,Tryz.ntmps257
  go_wp2_with fail
  refine ht.mono ?_
  rintro e w1 ⟨rfl,rfl⟩
  go_wp2_with fail
  refine ha.mono ?_
  rintro e w1 ⟨v,t,a,rfl,hb1⟩
  obtain ⟨c0,c1,c2,c3,c4,c5,f0,f1,f2,f3,f4,f5⟩:=hx.later hb1
  go_wp2
  exact bodyPost_ret (v:=.tuple #[.agg #[.int .i64 0,.int .i64 0,.string ⟨#[]⟩,.bool false,.int .i64 0,.int .i64 0],.int .i64 0]) (by simp [results,Tryz.results257,go_sem,c0,c1,c2,c3,c4,c5]) rfl ⟨by rw [zde HR.out];rfl,zbu (Below.chain hb0 hb1) (Nat.le_refl _) _ _ _ _ _ _⟩
/-! ### Signs -/
theorem zkm (s:Str) (w:World):Calls Tryz.prog 260 #[tx s] w fun e w'=>e = .returned (.bool (isSg s)) ∧ w = w':=by
 cases h:isSg s with
 | true=>
  rcases zgy h with rfl | rfl | rfl | rfl | rfl | rfl | rfl | rfl | rfl | rfl | rfl | rfl | rfl | rfl | rfl | rfl | rfl | rfl | rfl | rfl <;> (
   clear h
   go_enter Tryz.func260,Tryz.ntmps260
   go_wp2
   go_ret
   exact ⟨rfl,rfl⟩)
 | false=>
  have hall:∀ t ∈ signs,(s == t) = false:=by
   intro t ht
   rw [beq_eq_false_iff_ne]
   rintro rfl
   unfold isSg at h
   rw [List.contains_iff_mem.2 ht] at h
   cases h
  unfold signs at hall
  simp only [List.mem_cons,List.not_mem_nil,or_false,forall_eq_or_imp,forall_eq] at hall
  obtain ⟨h1,h2,h3,h4,h5,h6,h7,h8,h9,h10,h11,h12,h13,h14,h15,h16,h17,h18,h19,h20⟩:=hall
  clear h
  go_enter Tryz.func260,Tryz.ntmps260
  go_wp2
  go_ret
  exact ⟨rfl,rfl⟩
def sgF (s:Str):Nat → Option (Tk × Nat)
 | 0=>none
 | j + 1=>if isSg (s.take (j + 1)) = true then some (tSign (s.take (j + 1)),j + 1) else sgF s j
theorem sgF_eq {s:Str} (hs:s ≠ []):sgF s (min s.length 2) = tkSg s:=by
 unfold tkSg
 by_cases h2:2 ≤ s.length
 ·
  have e:min s.length 2 = 2:=by omega
  rw [e]
  simp [sgF,h2]
 have h1:s.length = 1:=by
  cases s with
  | nil=>exact absurd rfl hs
  | cons c r=>simp at h2 ⊢;omega
 have e:min s.length 2 = 1:=by omega
 rw [e]
 simp [sgF,h1]
theorem zhx (s:Str) (w:World) (hs:s.length ≤ 1000) (hne:s ≠ []):Calls Tryz.prog 201 #[tx s] w fun e w'=>e = .returned (rt (tkSg s)) ∧ Below w.heap.size w w':=by
 have hg:=fun (j:Nat) W=>zkm (s.take j) W
 have hex:=fun j=>Fx.ba_take s j
 have HS:Hid (sgF s (min s.length 2) = tkSg s):=sgF_eq hne
 clear hne
 go_enter Tryz.func201,Tryz.ntmps201
 go_wp2_with fail
 go_loop [4] (fun i=>∃ j:Nat,j ≤ 2 ∧ j ≤ s.length ∧ i = .int .i64 j ∧ Hid (sgF s j = tkSg s)) (fun i=>(intOf i).toNat)
 case atStart=>exact ⟨min s.length 2,by omega,by omega,by first | (simp;done) | (simp;omega),HS⟩
 case round=>
  obtain ⟨j,hj2,hjs,rfl,HJ⟩:=hrel
  cases j with
  | zero=>
   have HR:Hid ((tkSg s).getD (tk0,0) = (tk0,0)):=by show _ = _;rw [← HJ.out];rfl
   clear HJ HS
   go_wp2
   exact bodyPost_ret (v:=.tuple #[.agg #[.int .i64 0,.int .i64 0,.string ⟨#[]⟩,.bool false,.int .i64 0,.int .i64 0],.int .i64 0]) (by simp [results,Tryz.results201,go_sem]) rfl ⟨by rw [zde HR.out];rfl,bal (Below.refl _ _) _⟩
  | succ j=>
   have hgj:=hg (j + 1)
   have hexj:=hex (j + 1)
   cases hc:isSg (s.take (j + 1)) with
   | true=>
    have HR:Hid ((tkSg s).getD (tk0,0) = (tSign (s.take (j + 1)),j + 1)):=by show _ = _;rw [← HJ.out,sgF,if_pos hc];rfl
    rw [hc] at hgj
    clear HJ HS hc hex hg
    generalize s.take (j + 1) = r at *
    have hp1:(0:Int) < (j:Int) + 1:=by omega
    have hp2:¬ (j:Int) + 1 < 0:=by omega
    have hp3:(j:Int) + 1 ≤ s.length:=by omega
    have hp4:((j:Int) + 1).toNat = j + 1:=by omega
    go_wp2_with fail
    refine (hgj _).mono ?_
    rintro e w1 ⟨rfl,rfl⟩
    go_wp2
    exact bodyPost_ret (v:=.tuple #[.agg #[.int .i64 5,.int .i64 0,tx r,.bool false,.int .i64 0,.int .i64 0],.int .i64 ((j + 1:Nat):Int)]) (by simp [results,Tryz.results201,go_sem]) rfl ⟨by rw [zde HR.out];rfl,bal (Below.refl _ _) _⟩
   | false=>
    have HR:Hid (sgF s j = tkSg s):=by show _ = _;rw [← HJ.out,sgF,if_neg (by simp [hc])]
    rw [hc] at hgj
    clear HJ HS hc hex hg
    generalize s.take (j + 1) = r at *
    have hp1:(0:Int) < (j:Int) + 1:=by omega
    have hp2:¬ (j:Int) + 1 < 0:=by omega
    have hp3:(j:Int) + 1 ≤ s.length:=by omega
    have hp4:((j:Int) + 1).toNat = j + 1:=by omega
    go_wp2_with fail
    refine (hgj _).mono ?_
    rintro e w1 ⟨rfl,rfl⟩
    go_wp2
    go_round
    case rel=>exact ⟨j,by omega,by omega,by go_num,HR⟩
    case measure=>simp [intOf]
theorem tx_some {s l:Str} {j:Nat} (h:qd (s.drop 1) = some (l,j)) (hl:l.length ≤ 30):(tkTx s).getD (tk0,0) = (tText l,j + 1):=by
 unfold tkTx
 rw [← List.drop_one,h]
 simp [hl]
theorem zhs {s:Str} (h:qd (s.drop 1) = none):(tkTx s).getD (tk0,0) = (tk0,0):=by
 unfold tkTx
 rw [← List.drop_one,h]
 rfl
theorem tx_long {s l:Str} {j:Nat} (h:qAt s j l) (hl:30 < l.length):(tkTx s).getD (tk0,0) = (tk0,0):=by
 unfold tkTx
 unfold qAt at h
 rw [← List.drop_one,h]
 cases qd (s.drop j) with
 | none=>rfl
 | some x=>
  simp only [Option.map_some]
  rw [if_neg (by simp;omega)]
  rfl
theorem OwnB.form {w:World} {base:Nat} {v:Value} {l:Str} (h:OwnB w base v l):∃ ao cap,v = .slice ao l.length cap:=by
 rcases h.2 with ⟨rfl,h0⟩ | ⟨g,cap,cur,rfl,hb,hg,hn,_,hs,ht⟩
 ·
  rw [h0];exact ⟨none,0,rfl⟩
 exact ⟨_,cap,rfl⟩
theorem text_any (s:Str) (w:World) (hs:s.length ≤ 1000) (hpos:0 < s.length):Calls Tryz.prog 200 #[tx s] w fun e w'=>e = .returned (rt (tkTx s)) ∧ Below w.heap.size w w':=by
 obtain ⟨i0,hi,hz0,hz1,hz2⟩:=zgf
 have hb0:Below w.heap.size w (w.alloc (.cells #[.int .i64 0,.int .i64 0,.string ⟨#[]⟩,.bool false,.int .i64 0,.int .i64 0] 161)):=bal (Below.refl _ _) _
 have hx:=(BoxT.new0 w).later (bal (Below.refl _ _) (.cells #[] 5))
 have hmade:OwnB ((w.alloc (.cells #[.int .i64 0,.int .i64 0,.string ⟨#[]⟩,.bool false,.int .i64 0,.int .i64 0] 161)).alloc (.cells #[] 5)) (w.heap.size + 1) (.slice (some ⟨w.heap.size + 1,0,none⟩) 0 0) []:=by
  have:=World.ownsRow_made (w.alloc (.cells #[.int .i64 0,.int .i64 0,.string ⟨#[]⟩,.bool false,.int .i64 0,.int .i64 0] 161)) (e:=5) (size:=1) (base:=w.heap.size + 1) #[] 0 (by simp) (Nat.zero_le _) (by simp)
  have e:(w.alloc (.cells #[.int .i64 0,.int .i64 0,.string ⟨#[]⟩,.bool false,.int .i64 0,.int .i64 0] 161)).heap.size = w.heap.size + 1:=by simp
  rw [e] at this
  exact this
 have hbm:=bal hb0 (.cells #[] 5)
 go_enter Tryz.func200,Tryz.ntmps200
 go_wp2_with fail
 go_loopw [5,4] (fun i u wr=>∃ (j n cap:Nat) (ao:Option Addr) (l:Str),j ≤ s.length ∧ 1 ≤ j ∧ n ≤ 31 ∧ i = .int .i64 j ∧ u = .slice ao n cap ∧ Hid (l.length = n) ∧ OwnB wr (w.heap.size + 1) (.slice ao n cap) l ∧ Hid (qAt s j l) ∧ BoxT wr w.heap.size tk0 ∧ Below w.heap.size w wr) (fun i _ _=>s.length - (intOf i).toNat)
 case atStart=>exact ⟨1,0,0,_,[],by omega,by omega,by omega,rfl,rfl,rfl,hmade,qAt_start s,hx,hbm⟩
 case round=>
  obtain ⟨j,n,cap,ao,l,hj,hj1,hn,rfl,rfl,HLN,ho,HR,hbx,hb⟩:=hrel
  have hcv:=ho.string
  obtain ⟨c0,c1,c2,c3,c4,c5,f0,f1,f2,f3,f4,f5⟩:=hbx
  have hbx:Hid (BoxT wr w.heap.size tk0):=⟨c0,c1,c2,c3,c4,c5,f0,f1,f2,f3,f4,f5⟩
  by_cases hlt:j < s.length
  ·
   have hbk:=zed hlt
   have HC:Hid (s[j] = ((⟨s.toArray⟩:ByteArray)[j]'hbk)):=rfl
   have hwr:IntKind.i64.wrap ((j:Int) + 1) = (j:Int) + 1:=by rw [IntKind.wrap_i64];omega
   by_cases hl:((((⟨s.toArray⟩:ByteArray)[j]'hbk).toNat:Int)) = 10
   ·
    have hl':(((((⟨s.toArray⟩:ByteArray)[j]'hbk).toNat:Int)) == 10) = true:=beq_iff_eq.2 hl
    have hln:(((((⟨s.toArray⟩:ByteArray)[j]'hbk).toNat:Int)) != 10) = false:=by rw [bne,hl'];rfl
    have HQ:Hid ((tkTx s).getD (tk0,0) = (tk0,0)):=zhs (zfo HR.out (by
     rw [List.drop_eq_getElem_cons hlt,show s[j] = 10 by rw [HC.out];exact zcb (k:=10) (by decide) hl]
     exact qd_line _))
    clear HR hl HC hcv
    go_wp2
    exact bodyPost_ret (v:=.tuple #[.agg #[.int .i64 0,.int .i64 0,.string ⟨#[]⟩,.bool false,.int .i64 0,.int .i64 0],.int .i64 0]) (by simp [results,Tryz.results200,go_sem,c0,c1,c2,c3,c4,c5]) rfl ⟨by rw [zde HQ.out];rfl,zbu hb (Nat.le_refl _) _ _ _ _ _ _⟩
   have hl':(((((⟨s.toArray⟩:ByteArray)[j]'hbk).toNat:Int)) == 10) = false:=beq_eq_false_iff_ne.2 hl
   have hln:(((((⟨s.toArray⟩:ByteArray)[j]'hbk).toNat:Int)) != 10) = true:=by rw [bne,hl'];rfl
   by_cases hn30:n ≤ 30
   ·
    have hn30':(n:Int) ≤ 30:=by omega
    by_cases hq:((((⟨s.toArray⟩:ByteArray)[j]'hbk).toNat:Int)) = 34
    ·
     have HQ:Hid ((tkTx s).getD (tk0,0) = (tText l,j + 1)):=tx_some (qAt_end hlt hj1 HR.out (by rw [HC.out];exact zcb (k:=34) (by decide) hq)) (by rw [HLN.out];exact hn30)
     have hq':(((((⟨s.toArray⟩:ByteArray)[j]'hbk).toNat:Int)) == 34) = true:=beq_iff_eq.2 hq
     have hc0:=hcv wr (Below.refl _ _)
     clear HR HC hl hq hcv
     go_wp2
     exact bodyPost_ret (v:=.tuple #[.agg #[.int .i64 4,.int .i64 0,tx l,.bool false,.int .i64 0,.int .i64 0],.int .i64 ((j + 1:Nat):Int)]) (by simp [results,Tryz.results200,go_sem,c0,c1,c2,c3,c4,c5]) rfl ⟨by rw [zde HQ.out];rfl,zbu hb (Nat.le_refl _) _ _ _ _ _ _⟩
    have hq':(((((⟨s.toArray⟩:ByteArray)[j]'hbk).toNat:Int)) == 34) = false:=beq_eq_false_iff_ne.2 hq
    have hq1:=zcg (k:=34) (by decide) hq
    by_cases hk:((((⟨s.toArray⟩:ByteArray)[j]'hbk).toNat:Int)) = 92
    ·
     have hk':(((((⟨s.toArray⟩:ByteArray)[j]'hbk).toNat:Int)) == 92) = true:=beq_iff_eq.2 hk
     have hk2:s[j] = 92:=by rw [HC.out];exact zcb (k:=92) (by decide) hk
     by_cases h1:j + 1 < s.length
     ·
      have hbk1:=zed h1
      have h1':((j:Int) + 1 == (s.length:Int)) = false:=by rw [beq_eq_false_iff_ne];omega
      have HC1:Hid (s[j + 1] = ((⟨s.toArray⟩:ByteArray)[j + 1]'hbk1)):=rfl
      have hix:∀ W,(Instr.index 9 (tx s) (.int .i64 ((j:Int) + 1))).run Tryz.prog W = .ok (by8 ((⟨s.toArray⟩:ByteArray)[j + 1]'hbk1)) W:=fun W=>znf s (j + 1) hbk1 W
      by_cases d1:((((⟨s.toArray⟩:ByteArray)[j + 1]'hbk1).toNat:Int)) = 34
      ·
       have HN:Hid (qAt s (j + 2) (l ++ [(⟨s.toArray⟩:ByteArray)[j + 1]'hbk1])):=zmy h1 hj1 HR.out hk2 (Or.inl (by rw [HC1.out];exact zcb (k:=34) (by decide) d1))
       have d1':(((((⟨s.toArray⟩:ByteArray)[j + 1]'hbk1).toNat:Int)) == 34) = true:=beq_iff_eq.2 d1
       have d1n:(((((⟨s.toArray⟩:ByteArray)[j + 1]'hbk1).toNat:Int)) != 34) = false:=by rw [bne,d1'];rfl
       clear HR hl hq hq1 hk hk2 hcv d1 HC HC1
       have ho1:=ho.later (bal (Below.refl _ _) (.cells #[by8 ((⟨s.toArray⟩:ByteArray)[j + 1]'hbk1)] 5))
       have hbo:=bal hb (.cells #[by8 ((⟨s.toArray⟩:ByteArray)[j + 1]'hbk1)] 5)
       have hbx1:Hid (BoxT (wr.alloc (.cells #[by8 ((⟨s.toArray⟩:ByteArray)[j + 1]'hbk1)] 5)) w.heap.size tk0):=hbx.out.later (bal (Below.refl _ _) _)
       clear c0 c1 c2 c3 c4 c5 f0 f1 f2 f3 f4 f5
       go_wp2_with (at_builtin;go_must (refine wpList_append_own _ rfl _ _ 55 rfl (w.heap.size + 1) 5 i0 (.int .u8 0) 1 1 Tryz.underlying55 hi hz0 hz1 hz2 rfl (by decide) _ _ _ rfl ho1 ⟨wr.heap.size,0,none⟩ 1 1 [by8 ((⟨s.toArray⟩:ByteArray)[j + 1]'hbk1)] rfl rfl (zbk (World.cell?_alloc_new wr _ _ 0)) (fun u hu=>by cases hu with | head=>rfl | tail _ h=>cases h) ?h63 ?hby ?hbs ?_))
       case h63=>have:=HLN.out;unfold maxLen;omega
       case hby=>have:=HLN.out;omega
       case hbs=>have:=hbx.out.lt;simp;omega
       intro v' w2 ho4 hg4 _
       have ho5:=OwnB.snoc ho4
       obtain ⟨ao',cap',rfl⟩:=ho5.form
       have HLN':Hid ((l ++ [(⟨s.toArray⟩:ByteArray)[j + 1]'hbk1]).length = n + 1):=by show _ = _;rw [List.length_append,HLN.out];rfl
       rw [HLN'.out] at ho5 ⊢
       have hbx2:=hbx1.out.kept hg4 (fun e=>by have:=(World.ownsRow.lt ho1 _ e.symm).1;omega)
       have hbo2:=hbo.grown hg4 hbo.size (fun k hk=>by have:=(World.ownsRow.lt ho1 k hk).1;omega)
       clear ho4
       go_wp2
       go_roundw
       case rel=>exact ⟨j + 2,n + 1,cap',ao',l ++ [(⟨s.toArray⟩:ByteArray)[j + 1]'hbk1],by omega,by omega,by omega,by go_num,rfl,HLN',ho5,HN,hbx2,hbo2⟩
       case measure=>simp [intOf];omega
      have d1':(((((⟨s.toArray⟩:ByteArray)[j + 1]'hbk1).toNat:Int)) == 34) = false:=beq_eq_false_iff_ne.2 d1
      have d1n:(((((⟨s.toArray⟩:ByteArray)[j + 1]'hbk1).toNat:Int)) != 34) = true:=by rw [bne,d1'];rfl
      by_cases d2:((((⟨s.toArray⟩:ByteArray)[j + 1]'hbk1).toNat:Int)) = 92
      ·
       have HN:Hid (qAt s (j + 2) (l ++ [(⟨s.toArray⟩:ByteArray)[j + 1]'hbk1])):=zmy h1 hj1 HR.out hk2 (Or.inr (by rw [HC1.out];exact zcb (k:=92) (by decide) d2))
       have d2':(((((⟨s.toArray⟩:ByteArray)[j + 1]'hbk1).toNat:Int)) == 92) = true:=beq_iff_eq.2 d2
       have d2n:(((((⟨s.toArray⟩:ByteArray)[j + 1]'hbk1).toNat:Int)) != 92) = false:=by rw [bne,d2'];rfl
       clear HR hl hq hq1 hk hk2 hcv d1 d2 HC HC1
       have ho1:=ho.later (bal (Below.refl _ _) (.cells #[by8 ((⟨s.toArray⟩:ByteArray)[j + 1]'hbk1)] 5))
       have hbo:=bal hb (.cells #[by8 ((⟨s.toArray⟩:ByteArray)[j + 1]'hbk1)] 5)
       have hbx1:Hid (BoxT (wr.alloc (.cells #[by8 ((⟨s.toArray⟩:ByteArray)[j + 1]'hbk1)] 5)) w.heap.size tk0):=hbx.out.later (bal (Below.refl _ _) _)
       clear c0 c1 c2 c3 c4 c5 f0 f1 f2 f3 f4 f5
       go_wp2_with (at_builtin;go_must (refine wpList_append_own _ rfl _ _ 55 rfl (w.heap.size + 1) 5 i0 (.int .u8 0) 1 1 Tryz.underlying55 hi hz0 hz1 hz2 rfl (by decide) _ _ _ rfl ho1 ⟨wr.heap.size,0,none⟩ 1 1 [by8 ((⟨s.toArray⟩:ByteArray)[j + 1]'hbk1)] rfl rfl (zbk (World.cell?_alloc_new wr _ _ 0)) (fun u hu=>by cases hu with | head=>rfl | tail _ h=>cases h) ?h63 ?hby ?hbs ?_))
       case h63=>have:=HLN.out;unfold maxLen;omega
       case hby=>have:=HLN.out;omega
       case hbs=>have:=hbx.out.lt;simp;omega
       intro v' w2 ho4 hg4 _
       have ho5:=OwnB.snoc ho4
       obtain ⟨ao',cap',rfl⟩:=ho5.form
       have HLN':Hid ((l ++ [(⟨s.toArray⟩:ByteArray)[j + 1]'hbk1]).length = n + 1):=by show _ = _;rw [List.length_append,HLN.out];rfl
       rw [HLN'.out] at ho5 ⊢
       have hbx2:=hbx1.out.kept hg4 (fun e=>by have:=(World.ownsRow.lt ho1 _ e.symm).1;omega)
       have hbo2:=hbo.grown hg4 hbo.size (fun k hk=>by have:=(World.ownsRow.lt ho1 k hk).1;omega)
       clear ho4
       go_wp2
       go_roundw
       case rel=>exact ⟨j + 2,n + 1,cap',ao',l ++ [(⟨s.toArray⟩:ByteArray)[j + 1]'hbk1],by omega,by omega,by omega,by go_num,rfl,HLN',ho5,HN,hbx2,hbo2⟩
       case measure=>simp [intOf];omega
      have d2':(((((⟨s.toArray⟩:ByteArray)[j + 1]'hbk1).toNat:Int)) == 92) = false:=beq_eq_false_iff_ne.2 d2
      have d2n:(((((⟨s.toArray⟩:ByteArray)[j + 1]'hbk1).toNat:Int)) != 92) = true:=by rw [bne,d2'];rfl
      have HQ:Hid ((tkTx s).getD (tk0,0) = (tk0,0)):=zhs (zfo HR.out (by
       rw [List.drop_eq_getElem_cons hlt,List.drop_eq_getElem_cons h1,hk2]
       refine zhb _ ?_
       rintro (e | e)
       ·
        exact zcg (k:=34) (by decide) d1 (by rw [← HC1.out,e];rfl)
       exact zcg (k:=92) (by decide) d2 (by rw [← HC1.out,e];rfl)))
      clear HR hl hq hq1 hk hk2 hcv d1 d2 HC HC1
      go_wp2
      exact bodyPost_ret (v:=.tuple #[.agg #[.int .i64 0,.int .i64 0,.string ⟨#[]⟩,.bool false,.int .i64 0,.int .i64 0],.int .i64 0]) (by simp [results,Tryz.results200,go_sem,c0,c1,c2,c3,c4,c5]) rfl ⟨by rw [zde HQ.out];rfl,zbu hb (Nat.le_refl _) _ _ _ _ _ _⟩
     have h1':((j:Int) + 1 == (s.length:Int)) = true:=by rw [beq_iff_eq];omega
     have HQ:Hid ((tkTx s).getD (tk0,0) = (tk0,0)):=zhs (zfo HR.out (by
      rw [List.drop_eq_getElem_cons hlt,List.drop_of_length_le (by omega),hk2]
      rfl))
     clear HR hl hq hq1 hk hk2 hcv HC
     go_wp2
     exact bodyPost_ret (v:=.tuple #[.agg #[.int .i64 0,.int .i64 0,.string ⟨#[]⟩,.bool false,.int .i64 0,.int .i64 0],.int .i64 0]) (by simp [results,Tryz.results200,go_sem,c0,c1,c2,c3,c4,c5]) rfl ⟨by rw [zde HQ.out];rfl,zbu hb (Nat.le_refl _) _ _ _ _ _ _⟩
    have hk':(((((⟨s.toArray⟩:ByteArray)[j]'hbk).toNat:Int)) == 92) = false:=beq_eq_false_iff_ne.2 hk
    have HN:Hid (qAt s (j + 1) (l ++ [(⟨s.toArray⟩:ByteArray)[j]'hbk])):=qAt_plain hlt hj1 HR.out (by rw [HC.out];exact hq1) (by rw [HC.out];exact zcg (k:=92) (by decide) hk) (by rw [HC.out];exact zcg (k:=10) (by decide) hl)
    clear HR hl hq hq1 hk hcv HC
    have ho1:=ho.later (bal (Below.refl _ _) (.cells #[by8 ((⟨s.toArray⟩:ByteArray)[j]'hbk)] 5))
    have hbo:=bal hb (.cells #[by8 ((⟨s.toArray⟩:ByteArray)[j]'hbk)] 5)
    have hbx1:Hid (BoxT (wr.alloc (.cells #[by8 ((⟨s.toArray⟩:ByteArray)[j]'hbk)] 5)) w.heap.size tk0):=hbx.out.later (bal (Below.refl _ _) _)
    clear c0 c1 c2 c3 c4 c5 f0 f1 f2 f3 f4 f5
    go_wp2_with (at_builtin;go_must (refine wpList_append_own _ rfl _ _ 55 rfl (w.heap.size + 1) 5 i0 (.int .u8 0) 1 1 Tryz.underlying55 hi hz0 hz1 hz2 rfl (by decide) _ _ _ rfl ho1 ⟨wr.heap.size,0,none⟩ 1 1 [by8 ((⟨s.toArray⟩:ByteArray)[j]'hbk)] rfl rfl (zbk (World.cell?_alloc_new wr _ _ 0)) (fun u hu=>by cases hu with | head=>rfl | tail _ h=>cases h) ?h63 ?hby ?hbs ?_))
    case h63=>have:=HLN.out;unfold maxLen;omega
    case hby=>have:=HLN.out;omega
    case hbs=>have:=hbx.out.lt;simp;omega
    intro v' w2 ho4 hg4 _
    have ho5:=OwnB.snoc ho4
    obtain ⟨ao',cap',rfl⟩:=ho5.form
    have HLN':Hid ((l ++ [(⟨s.toArray⟩:ByteArray)[j]'hbk]).length = n + 1):=by show _ = _;rw [List.length_append,HLN.out];rfl
    rw [HLN'.out] at ho5 ⊢
    have hbx2:=hbx1.out.kept hg4 (fun e=>by have:=(World.ownsRow.lt ho1 _ e.symm).1;omega)
    have hbo2:=hbo.grown hg4 hbo.size (fun k hk=>by have:=(World.ownsRow.lt ho1 k hk).1;omega)
    clear ho4
    go_wp2
    go_roundw
    case rel=>exact ⟨j + 1,n + 1,cap',ao',l ++ [(⟨s.toArray⟩:ByteArray)[j]'hbk],by omega,by omega,by omega,by go_num,rfl,HLN',ho5,HN,hbx2,hbo2⟩
    case measure=>simp [intOf];omega
   have hn30':¬ (n:Int) ≤ 30:=by omega
   have HQ:Hid ((tkTx s).getD (tk0,0) = (tk0,0)):=tx_long HR.out (by rw [HLN.out];omega)
   clear HR hl HC hcv
   go_wp2
   exact bodyPost_ret (v:=.tuple #[.agg #[.int .i64 0,.int .i64 0,.string ⟨#[]⟩,.bool false,.int .i64 0,.int .i64 0],.int .i64 0]) (by simp [results,Tryz.results200,go_sem,c0,c1,c2,c3,c4,c5]) rfl ⟨by rw [zde HQ.out];rfl,zbu hb (Nat.le_refl _) _ _ _ _ _ _⟩
  have HQ:Hid ((tkTx s).getD (tk0,0) = (tk0,0)):=zhs (zfo HR.out (by rw [List.drop_of_length_le (by omega)];rfl))
  clear HR hcv
  go_wp2
  exact bodyPost_ret (v:=.tuple #[.agg #[.int .i64 0,.int .i64 0,.string ⟨#[]⟩,.bool false,.int .i64 0,.int .i64 0],.int .i64 0]) (by simp [results,Tryz.results200,go_sem,c0,c1,c2,c3,c4,c5]) rfl ⟨by rw [zde HQ.out];rfl,zbu hb (Nat.le_refl _) _ _ _ _ _ _⟩
theorem take_t {s:Str} {k:Nat} (h:(s.drop k).head? = some 116):s.take (k + 1) = s.take k ++ [116] ∧ k + 1 ≤ s.length:=by
 have hk:k < s.length:=by
  by_cases hk:k < s.length
  ·
   exact hk
  rw [List.drop_of_length_le (by omega)] at h;cases h
 rw [List.drop_eq_getElem_cons hk] at h
 have e:s[k] = 116:=Option.some.inj h
 exact ⟨by rw [zci s k hk,e],by omega⟩
theorem zpe (s:Str) (w:World) (hs:s.length ≤ 1000) (he:Ev w):Calls Tryz.prog 196 #[tx s] w fun e w'=>e = .returned (rt (tkAmt s)) ∧ Below w.heap.size w w':=by
 have hb0:Below w.heap.size w (w.alloc (.cells #[.int .i64 0,.int .i64 0,.string ⟨#[]⟩,.bool false,.int .i64 0,.int .i64 0] 161)):=bal (Below.refl _ _) _
 have hx:=BoxT.new0 w
 have he0:=he.later hb0
 have hr:=fun W=>zmq s W (by omega)
 have hgl:=zno s
 have hex1:(⟨s.toArray⟩:ByteArray).extract (dgN s) s.length = ⟨(s.drop (dgN s)).toArray⟩:=zey s (dgN s)
 have hp:=fun W=>zek (s.drop (dgN s)) 116 W
 by_cases ht:(s.drop (dgN s)).head? = some 116
 ·
  obtain ⟨t1,t2⟩:=take_t ht
  rw [decide_eq_true ht] at hp
  have hex2:(⟨s.toArray⟩:ByteArray).extract 0 (dgN s + 1) = ⟨(s.take (dgN s) ++ [116]).toArray⟩:=by rw [Fx.ba_take,t1]
  have hd:=zkc (s.take (dgN s)) (w.alloc (.cells #[.int .i64 0,.int .i64 0,.string ⟨#[]⟩,.bool false,.int .i64 0,.int .i64 0] 161)) (by simp;omega) he0
  have HR:Hid (tkAmt s = tkDur (s.take (dgN s))):=by show _ = _;unfold tkAmt;rw [if_pos ht]
  rw [HR.out]
  clear HR ht t1
  generalize tkDur (s.take (dgN s)) = o at *
  obtain ⟨u,hu⟩:∃ u,u = s.take (dgN s) ++ [116]:=⟨_,rfl⟩
  rw [← hu] at hex2 hd
  clear hu
  generalize s.drop (dgN s) = r at *
  generalize dgN s = k at *
  have k1:(k:Int) ≤ s.length:=by omega
  have k2:(k:Int) + 1 ≤ s.length:=by omega
  have k3:((k:Int) + 1).toNat = k + 1:=by omega
  have k4:¬ (k:Int) + 1 < 0:=by omega
  go_enter Tryz.func196,Tryz.ntmps196
  go_wp2_with fail
  refine (hr _).mono ?_
  rintro e w1 ⟨rfl,rfl⟩
  go_wp2_with fail
  refine (hp _).mono ?_
  rintro e w1 ⟨rfl,rfl⟩
  go_wp2_with fail
  refine hd.mono ?_
  rintro e w1 ⟨rfl,hb1⟩
  obtain ⟨c0,c1,c2,c3,c4,c5,f0,f1,f2,f3,f4,f5⟩:=hx.later hb1
  go_wp2
  exact bodyPost_ret (v:=rt o) (by simp [results,Tryz.results196,go_sem,c0,c1,c2,c3,c4,c5]) rfl ⟨rfl,zbu (Below.chain hb0 hb1) (Nat.le_refl _) _ _ _ _ _ _⟩
 rw [decide_eq_false ht] at hp
 have hdl:=decN_le (s.drop (dgN s))
 have hdc:=fun W=>zkd (s.drop (dgN s)) W (by simp;omega)
 rw [List.length_drop] at hdl
 have hex2:(⟨s.toArray⟩:ByteArray).extract 0 (dgN s + decN (s.drop (dgN s))) = ⟨(s.take (dgN s + decN (s.drop (dgN s)))).toArray⟩:=Fx.ba_take s _
 have hd:=zkl (s.take (dgN s + decN (s.drop (dgN s)))) (w.alloc (.cells #[.int .i64 0,.int .i64 0,.string ⟨#[]⟩,.bool false,.int .i64 0,.int .i64 0] 161)) (by simp;omega)
 have HR:Hid (tkAmt s = tkNum (s.take (dgN s + decN (s.drop (dgN s))))):=by show _ = _;unfold tkAmt;rw [if_neg ht]
 rw [HR.out]
 clear HR ht
 generalize tkNum (s.take (dgN s + decN (s.drop (dgN s)))) = o at *
 generalize s.take (dgN s + decN (s.drop (dgN s))) = u at *
 generalize decN (s.drop (dgN s)) = d at *
 generalize s.drop (dgN s) = r at *
 generalize dgN s = k at *
 have k1:(k:Int) ≤ s.length:=by omega
 have k2:(k:Int) + d ≤ s.length:=by omega
 have k3:((k:Int) + d).toNat = k + d:=by omega
 have k4:¬ (k:Int) + d < 0:=by omega
 go_enter Tryz.func196,Tryz.ntmps196
 go_wp2_with fail
 refine (hr _).mono ?_
 rintro e w1 ⟨rfl,rfl⟩
 go_wp2_with fail
 refine (hp _).mono ?_
 rintro e w1 ⟨rfl,rfl⟩
 go_wp2_with fail
 refine (hdc _).mono ?_
 rintro e w1 ⟨rfl,rfl⟩
 go_wp2_with fail
 refine hd.mono ?_
 rintro e w1 ⟨rfl,hb1⟩
 obtain ⟨c0,c1,c2,c3,c4,c5,f0,f1,f2,f3,f4,f5⟩:=hx.later hb1
 go_wp2
 exact bodyPost_ret (v:=rt o) (by simp [results,Tryz.results196,go_sem,c0,c1,c2,c3,c4,c5]) rfl ⟨rfl,zbu (Below.chain hb0 hb1) (Nat.le_refl _) _ _ _ _ _ _⟩
theorem headD_at {s:Str} (h:0 < s.length):s.headD 0 = (⟨s.toArray⟩:ByteArray)[0]'(zed h):=by
 cases s with
 | nil=>simp at h
 | cons c r=>rfl
theorem first_any (s:Str) (w:World) (hs:s.length ≤ 1000) (hpos:0 < s.length) (he:Ev w):Calls Tryz.prog 124 #[tx s] w fun e w'=>e = .returned (rt (tok s)) ∧ Below w.heap.size w w':=by
 have hb0:Below w.heap.size w (w.alloc (.cells #[.int .i64 0,.int .i64 0,.string ⟨#[]⟩,.bool false,.int .i64 0,.int .i64 0] 161)):=bal (Below.refl _ _) _
 have hx:=BoxT.new0 w
 have he0:=he.later hb0
 have hbk:=zed hpos
 have hd:=fun W=>zeo ((⟨s.toArray⟩:ByteArray)[0]'hbk) W
 have hn:=fun W=>zis ((⟨s.toArray⟩:ByteArray)[0]'hbk) W
 have hne:s ≠ []:=List.length_pos_iff.1 hpos
 have HH:=headD_at hpos
 cases hdc:digB ((⟨s.toArray⟩:ByteArray)[0]'hbk) with
 | true=>
  rw [hdc] at hd
  have ha:=zpe s (w.alloc (.cells #[.int .i64 0,.int .i64 0,.string ⟨#[]⟩,.bool false,.int .i64 0,.int .i64 0] 161)) hs he0
  have HR:Hid (tok s = tkAmt s):=by show _ = _;unfold tok;rw [if_pos (by rw [HH];exact hdc)]
  rw [HR.out]
  clear HR HH hdc hn hne
  generalize tkAmt s = o at *
  go_enter Tryz.func124,Tryz.ntmps124
  go_wp2_with fail
  refine (hd _).mono ?_
  rintro e w1 ⟨rfl,rfl⟩
  go_wp2_with fail
  refine ha.mono ?_
  rintro e w1 ⟨rfl,hb1⟩
  obtain ⟨c0,c1,c2,c3,c4,c5,f0,f1,f2,f3,f4,f5⟩:=hx.later hb1
  go_wp2
  exact bodyPost_ret (v:=rt o) (by simp [results,Tryz.results124,go_sem,c0,c1,c2,c3,c4,c5]) rfl ⟨rfl,zbu (Below.chain hb0 hb1) (Nat.le_refl _) _ _ _ _ _ _⟩
 | false=>
  rw [hdc] at hd
  cases hnc:nameCh ((⟨s.toArray⟩:ByteArray)[0]'hbk) with
  | true=>
   rw [hnc] at hn
   have hrn:=fun W=>runN_any s W (by omega)
   have hil:=idN_le s
   have hex:(⟨s.toArray⟩:ByteArray).extract 0 (idN s) = ⟨(s.take (idN s)).toArray⟩:=Fx.ba_take s _
   have ha:=zgr (s.take (idN s)) (w.alloc (.cells #[.int .i64 0,.int .i64 0,.string ⟨#[]⟩,.bool false,.int .i64 0,.int .i64 0] 161)) (by simp;omega)
   have HR:Hid (tok s = tkId (s.take (idN s))):=by show _ = _;unfold tok;rw [if_neg (by rw [HH,hdc];simp),if_pos (by rw [HH];exact hnc)]
   rw [HR.out]
   clear HR HH hdc hnc hne
   generalize tkId (s.take (idN s)) = o at *
   generalize s.take (idN s) = u at *
   generalize idN s = k at *
   have k1:(k:Int) ≤ s.length:=by omega
   go_enter Tryz.func124,Tryz.ntmps124
   go_wp2_with fail
   refine (hd _).mono ?_
   rintro e w1 ⟨rfl,rfl⟩
   go_wp2_with fail
   refine (hn _).mono ?_
   rintro e w1 ⟨rfl,rfl⟩
   go_wp2_with fail
   refine (hrn _).mono ?_
   rintro e w1 ⟨rfl,rfl⟩
   go_wp2_with fail
   refine ha.mono ?_
   rintro e w1 ⟨rfl,hb1⟩
   obtain ⟨c0,c1,c2,c3,c4,c5,f0,f1,f2,f3,f4,f5⟩:=hx.later hb1
   go_wp2
   exact bodyPost_ret (v:=rt o) (by simp [results,Tryz.results124,go_sem,c0,c1,c2,c3,c4,c5]) rfl ⟨rfl,zbu (Below.chain hb0 hb1) (Nat.le_refl _) _ _ _ _ _ _⟩
  | false=>
   rw [hnc] at hn
   by_cases hq:((((⟨s.toArray⟩:ByteArray)[0]'hbk)).toNat:Int) = 34
   ·
    have hq':(((((⟨s.toArray⟩:ByteArray)[0]'hbk)).toNat:Int) == 34) = true:=beq_iff_eq.2 hq
    have ha:=text_any s (w.alloc (.cells #[.int .i64 0,.int .i64 0,.string ⟨#[]⟩,.bool false,.int .i64 0,.int .i64 0] 161)) hs hpos
    have HR:Hid (tok s = tkTx s):=by show _ = _;unfold tok;rw [if_neg (by rw [HH,hdc];simp),if_neg (by rw [HH,hnc];simp),if_pos (by rw [HH];exact zcb (k:=34) (by decide) hq)]
    rw [HR.out]
    clear HR HH hdc hnc hne hq
    generalize tkTx s = o at *
    go_enter Tryz.func124,Tryz.ntmps124
    go_wp2_with fail
    refine (hd _).mono ?_
    rintro e w1 ⟨rfl,rfl⟩
    go_wp2_with fail
    refine (hn _).mono ?_
    rintro e w1 ⟨rfl,rfl⟩
    go_wp2_with fail
    refine ha.mono ?_
    rintro e w1 ⟨rfl,hb1⟩
    obtain ⟨c0,c1,c2,c3,c4,c5,f0,f1,f2,f3,f4,f5⟩:=hx.later hb1
    go_wp2
    exact bodyPost_ret (v:=rt o) (by simp [results,Tryz.results124,go_sem,c0,c1,c2,c3,c4,c5]) rfl ⟨rfl,zbu (Below.chain hb0 hb1) (Nat.le_refl _) _ _ _ _ _ _⟩
   have hq':(((((⟨s.toArray⟩:ByteArray)[0]'hbk)).toNat:Int) == 34) = false:=beq_eq_false_iff_ne.2 hq
   have ha:=zhx s (w.alloc (.cells #[.int .i64 0,.int .i64 0,.string ⟨#[]⟩,.bool false,.int .i64 0,.int .i64 0] 161)) hs hne
   have HR:Hid (tok s = tkSg s):=by show _ = _;unfold tok;rw [if_neg (by rw [HH,hdc];simp),if_neg (by rw [HH,hnc];simp),if_neg (by rw [HH];exact zcg (k:=34) (by decide) hq)]
   rw [HR.out]
   clear HR HH hdc hnc hne hq
   generalize tkSg s = o at *
   go_enter Tryz.func124,Tryz.ntmps124
   go_wp2_with fail
   refine (hd _).mono ?_
   rintro e w1 ⟨rfl,rfl⟩
   go_wp2_with fail
   refine (hn _).mono ?_
   rintro e w1 ⟨rfl,rfl⟩
   go_wp2_with fail
   refine ha.mono ?_
   rintro e w1 ⟨rfl,hb1⟩
   obtain ⟨c0,c1,c2,c3,c4,c5,f0,f1,f2,f3,f4,f5⟩:=hx.later hb1
   go_wp2
   exact bodyPost_ret (v:=rt o) (by simp [results,Tryz.results124,go_sem,c0,c1,c2,c3,c4,c5]) rfl ⟨rfl,zbu (Below.chain hb0 hb1) (Nat.le_refl _) _ _ _ _ _ _⟩
def lenOf:Value → Nat
 | .string b=>b.size
 | _=>0
theorem znc (s:Str):lenOf (tx s) = s.length:=zau s
theorem tok_y {r:Str} (hr:r ≠ []):(tok r = none ∧ (tok r).getD (tk0,0) = (tk0,0)) ∨ ∃ x k,tok r = some (x,k) ∧ (tok r).getD (tk0,0) = (x,k) ∧ 1 ≤ k ∧ k ≤ r.length:=by
 cases h:tok r with
 | none=>exact Or.inl ⟨rfl,rfl⟩
 | some y=>
  obtain ⟨x,k⟩:=y
  obtain ⟨h1,h2,_,_⟩:=ziu hr h
  exact Or.inr ⟨x,k,rfl,rfl,h1,h2⟩
theorem OwnT.form {w:World} {base:Nat} {v:Value} {l:List Tk} (h:OwnT w base v l):∃ ao cap,v = .slice ao l.length cap:=by
 obtain ⟨ao,cap,e,_⟩:=h.slice
 exact ⟨ao,cap,e⟩
theorem zmo (s:Str) (w:World) (hs:s.length ≤ 1000000) (he:Ev w):Calls Tryz.prog 73 #[tx s] w fun e w'=>∃ v,e = .returned (.tuple #[v,.int .i64 (scP s),.int .i64 (scE s)]) ∧ OwnT w' w.heap.size v (scL s) ∧ Below w.heap.size w w':=by
 obtain ⟨i0,hi,hz0,hz1,hz2⟩:=zjw
 by_cases hb:600 < s.length
 ·
  obtain ⟨e1,e2,e3⟩:=zmp hb
  rw [e1,e2,e3]
  have hb':(600:Int) < s.length:=by omega
  clear hb e1 e2 e3
  go_enter Tryz.func73,Tryz.ntmps73
  go_wp2
  go_ret3
  exact ⟨_,rfl,OwnT.nil _ _,Below.refl _ _⟩
 have hb':¬ (600:Int) < s.length:=by omega
 have hbad:=fun p=>sc_bad (s:=s) (p:=p) hb
 have hgood:=fun l=>sc_ok (s:=s) (l:=l) hb
 have HB:Hid (∀ p,sc s = .inl p → scE s = 70 ∧ scP s = p ∧ scL s = []):=hbad
 have HG:Hid (∀ l,sc s = .inr l → scE s = 0 ∧ scP s = 0 ∧ scL s = l ++ [tEnd s.length]):=hgood
 have hl:s.length ≤ 600:=by omega
 clear hbad hgood hb
 have hu:=zee s (w.alloc (.cells #[] 161))
 have hll:=zda s
 have HS:Hid (sc s = scanG s.length (lead s)):=rfl
 generalize lead s = r0 at *
 go_enter Tryz.func73,Tryz.ntmps73
 go_wp2_with fail
 refine hu.mono ?_
 rintro e w0 ⟨rfl,hb0⟩
 have hbw:Below w.heap.size w w0:=Below.chain (bal (Below.refl _ _) _) hb0
 have hown:=(OwnT.made w).later hb0
 clear hb0 hu
 go_wp2_with fail
 go_loopw [6,5] (fun t u wr=>∃ (r:Str) (l:List Tk) (n cap:Nat) (ao:Option Addr),t = tx r ∧ u = .slice ao n cap ∧ Hid (l.length = n) ∧ r.length ≤ s.length ∧ n + r.length ≤ s.length ∧ OwnT wr w.heap.size (.slice ao n cap) l ∧ Hid (sc s = pre l (scanG s.length r)) ∧ Below w.heap.size w wr) (fun t _ _=>lenOf t)
 case atStart=>exact ⟨r0,[],0,0,_,rfl,rfl,rfl,hll,by omega,hown,by show _ = _;rw [pre_nil];exact HS.out,hbw⟩
 case round=>
  clear hbw hown
  obtain ⟨r,l,n,cap,ao,rfl,rfl,HLN,hrs,hns,ho,HR,hb⟩:=hrel
  by_cases hr0:r = []
  ·
   subst hr0
   have HG':=HG.out l (by rw [HR.out,zjb];simp [pre])
   have HGG:Hid (scE s = 0 ∧ scP s = 0 ∧ scL s = l ++ [tEnd s.length]):=HG'
   clear HG' HR HG HB HS
   have ho1:=ho.later (bal (Below.refl _ _) (.cells (tcs (tEnd s.length)) 161))
   have hbo:=bal hb (.cells (tcs (tEnd s.length)) 161)
   have hbx:=BoxT.new wr (tEnd s.length)
   simp only [tEnd] at ho1 hbo hbx
   go_wp2_with (at_builtin;go_must (refine wpList_append_own _ rfl _ _ 117 rfl w.heap.size 161 i0 (.agg #[.int .i64 0,.int .i64 0,.string ⟨#[]⟩,.bool false,.int .i64 0,.int .i64 0]) 6 56 Tryz.underlying117 hi hz0 hz1 hz2 zero36 (by decide) _ _ _ rfl ho1 ⟨wr.heap.size,0,none⟩ 1 1 (cellsT [tEnd s.length]) rfl rfl ?hnews (zhk _) ?h63 ?hby ?hbs ?_))
   case hnews=>exact ziw hbx
   case h63=>have:=HLN.out;unfold maxLen;omega
   case hby=>have:=HLN.out;omega
   case hbs=>exact hbo.size
   intro v' w2 ho4 hg4 _
   have ho5:=OwnT.snoc ho4
   have hbo2:=hbo.grown hg4 hbo.size (fun k hk=>(World.ownsRow.lt ho1 k hk).1)
   clear ho4
   go_wp2
   go_ret3
   exact ⟨v',by rw [HGG.out.1,HGG.out.2.1];rfl,by rw [HGG.out.2.2];exact ho5,hbo2⟩
  have hpos:0 < r.length:=List.length_pos_iff.2 hr0
  have hf:=first_any r wr (by omega) hpos (he.later hb)
  have hr1:(r != []) = true:=by rw [bne_iff_ne];exact hr0
  have hr2:(r == []) = false:=by rw [beq_eq_false_iff_ne];exact hr0
  have hr3:r.isEmpty = false:=by cases r with | nil=>exact absurd rfl hr0 | cons c q=>rfl
  rcases tok_y hr0 with ⟨t1,t2⟩ | ⟨x,k,t1,t2,k1,k2⟩
  ·
   have HB':=HB.out _ (by rw [HR.out,zha hr0 t1];rfl)
   have HBB:Hid (scE s = 70 ∧ scP s = ((s.length - r.length:Nat):Int) ∧ scL s = []):=HB'
   rw [zde t2] at hf
   clear HB' HR HG HB HS t1 t2 hr0
   have hsub:((s.length - r.length:Nat):Int) = (s.length:Int) - r.length:=by omega
   rw [hsub] at HBB
   clear hsub
   go_wp2_with fail
   refine hf.mono ?_
   rintro e w1 ⟨rfl,hb1⟩
   have hbo:=Below.chain hb hb1
   go_upto_region 9 with fail
   go_quiet (fail)
   go_wp2
   go_ret3
   exact ⟨_,by rw [HBB.out.1,HBB.out.2.1];rfl,by rw [HBB.out.2.2];exact OwnT.nil _ _,Fx.below_drewN (bal hbo _) _⟩
  have HN:Hid (sc s = pre (l ++ [x.put ((s.length:Int) - r.length)]) (scanG s.length (lead (r.drop k)))):=by
   show _ = _
   rw [HR.out,zgz hr0 t1 k1,pre_push,show ((s.length - r.length:Nat):Int) = (s.length:Int) - r.length by omega]
  rw [zde t2] at hf
  have hex:(⟨r.toArray⟩:ByteArray).extract k r.length = ⟨(r.drop k).toArray⟩:=zey r k
  have hun:=fun W=>zee (r.drop k) W
  have hle:=zda (r.drop k)
  rw [List.length_drop] at hle
  have hk0:((k:Int) == 0) = false:=by rw [beq_eq_false_iff_ne];omega
  have hk1:(k:Int) ≤ r.length:=by omega
  clear HR HG HB HS t1 t2 hr0
  generalize lead (r.drop k) = q at *
  generalize r.drop k = rd at *
  go_wp2_with fail
  refine hf.mono ?_
  rintro e w1 ⟨rfl,hb1⟩
  have hb2:=bal (Below.refl w1.heap.size w1) (.cells (tcs (x.put ((s.length:Int) - r.length))) 161)
  have hbx:=(BoxT.new w1 (x.put ((s.length:Int) - r.length))).later (bal (Below.refl _ _) (.cells (tcs (x.put ((s.length:Int) - r.length))) 161))
  have hbx2:=BoxT.new (w1.alloc (.cells (tcs (x.put ((s.length:Int) - r.length))) 161)) (x.put ((s.length:Int) - r.length))
  have ho1:=((ho.later hb1).later hb2).later (bal (Below.refl _ _) (.cells (tcs (x.put ((s.length:Int) - r.length))) 161))
  have hbo:=bal (bal (Below.chain hb hb1) (.cells (tcs (x.put ((s.length:Int) - r.length))) 161)) (.cells (tcs (x.put ((s.length:Int) - r.length))) 161)
  have hsz:(w1.alloc (.cells (tcs (x.put ((s.length:Int) - r.length))) 161)).heap.size = w1.heap.size + 1:=by simp
  rw [hsz] at hbx2
  clear hsz
  simp only [Tk.put] at ho1 hbo hbx hbx2 HN hb2
  go_wp2_with (at_builtin;go_must (refine wpList_append_own _ rfl _ _ 117 rfl w.heap.size 161 i0 (.agg #[.int .i64 0,.int .i64 0,.string ⟨#[]⟩,.bool false,.int .i64 0,.int .i64 0]) 6 56 Tryz.underlying117 hi hz0 hz1 hz2 zero36 (by decide) _ _ _ rfl ho1 ⟨w1.heap.size + 1,0,none⟩ 1 1 (cellsT [⟨x.k,(s.length:Int) - r.length,x.t,x.o,x.n,x.d⟩]) rfl rfl ?hnews (zhk _) ?h63 ?hby ?hbs ?_))
  case hnews=>exact ziw hbx2
  case h63=>have:=HLN.out;unfold maxLen;omega
  case hby=>have:=HLN.out;omega
  case hbs=>exact hbo.size
  intro v' w2 ho4 hg4 _
  have ho5:=OwnT.snoc ho4
  have hbo2:=hbo.grown hg4 hbo.size (fun k hk=>(World.ownsRow.lt ho1 k hk).1)
  obtain ⟨ao',cap',rfl⟩:=ho5.form
  have HLN':Hid ((l ++ [(⟨x.k,(s.length:Int) - r.length,x.t,x.o,x.n,x.d⟩:Tk)]).length = n + 1):=by show _ = _;rw [List.length_append,HLN.out];rfl
  rw [HLN'.out] at ho5 ⊢
  clear ho4 hbx hbx2 ho1 hbo hb2
  go_wp2_with fail
  refine (hun _).mono ?_
  rintro e w3 ⟨rfl,hb3⟩
  have ho6:=ho5.later hb3
  have hbo3:=Below.chain hbo2 hb3
  go_wp2
  go_roundw
  case rel=>exact ⟨q,l ++ [⟨x.k,(s.length:Int) - r.length,x.t,x.o,x.n,x.d⟩],n + 1,cap',ao',rfl,rfl,HLN',by omega,by omega,ho6,HN,hbo3⟩
  case measure=>rw [znc,znc];omega
theorem zjn {r:Str} {k:Nat} (hr:r ≠ []) (hk:1 ≤ k):(lead (r.drop k)).length < r.length:=by
 have:=zda (r.drop k)
 have h:0 < r.length:=List.length_pos_iff.2 hr
 simp at this
 omega
theorem prT_put (x:Tk) (p:Int):prT (x.put p) = prT x:=rfl
theorem zdw (n:Nat):∀ (m:Nat) (r:Str),r.length ≤ m → r.length ≤ n → (∀ p,scanG n r = .inl p → p ≤ n) ∧ (∀ l,scanG n r = .inr l → l.length ≤ r.length ∧ (∀ x ∈ l,∃ y p,Okt y ∧ x = y.put p ∧ 0 ≤ p ∧ p ≤ n) ∧ (l.map fun x=>(prT x).length).sum ≤ r.length)
 | m,[],_,_=>by
  rw [zjb]
  refine ⟨fun p h=>(by cases h),fun l h=>?_⟩
  injection h with h
  subst h
  exact ⟨by simp,fun x hx=>by simp at hx,by simp⟩
 | 0,c :: r,h,_=>by simp at h
 | m + 1,c :: r,h,hn=>by
  have hr:c :: r ≠ []:=by simp
  generalize c :: r = r at *
  cases ht:tok r with
  | none=>
   rw [zha hr ht]
   refine ⟨fun p h=>?_,fun l h=>by cases h⟩
   injection h with h
   omega
  | some y=>
   obtain ⟨x,k⟩:=y
   obtain ⟨k1,k2,k3,k4⟩:=ziu hr ht
   have hlt:=zjn hr k1
   have hle:=zda (r.drop k)
   rw [List.length_drop] at hle
   obtain ⟨i1,i2⟩:=zdw n m (lead (r.drop k)) (by omega) (by omega)
   rw [zgz hr ht k1]
   cases hq:scanG n (lead (r.drop k)) with
   | inl p=>
    refine ⟨fun p' h=>?_,fun l h=>by cases h⟩
    injection h with h
    rw [← h]
    exact i1 p hq
   | inr l'=>
    refine ⟨fun p h=>(by cases h),fun l h=>?_⟩
    injection h with h
    subst h
    obtain ⟨j1,j2,j3⟩:=i2 l' hq
    refine ⟨by simp;omega,fun z hz=>?_,?_⟩
    ·
     rcases List.mem_cons.1 hz with rfl | hz
     ·
      exact ⟨x,_,k3,rfl,by omega,by omega⟩
     exact j2 z hz
    rw [List.map_cons,List.sum_cons,prT_put]
    omega
theorem zeg (s:Str):(scL s).length ≤ s.length + 1 ∧ (∀ x ∈ scL s,0 ≤ x.p ∧ x.p ≤ s.length) ∧ 0 ≤ scP s ∧ scP s ≤ s.length:=by
 by_cases hb:600 < s.length
 ·
  obtain ⟨e1,e2,e3⟩:=zmp hb
  rw [e2,e3]
  exact ⟨by simp,fun x hx=>by simp at hx,by omega,by omega⟩
 obtain ⟨f1,f2⟩:=zdw s.length (lead s).length (lead s) (Nat.le_refl _) (zda s)
 have hl:=zda s
 cases e:sc s with
 | inl p=>
  obtain ⟨e1,e2,e3⟩:=sc_bad hb e
  have:=f1 p e
  rw [e2,e3]
  exact ⟨by simp,fun x hx=>by simp at hx,by omega,by omega⟩
 | inr l=>
  obtain ⟨e1,e2,e3⟩:=sc_ok hb e
  obtain ⟨g1,g2,_⟩:=f2 l e
  rw [e2,e3]
  refine ⟨by simp;omega,fun x hx=>?_,by omega,by omega⟩
  rcases List.mem_append.1 hx with hx | hx
  ·
   obtain ⟨y,p,_,rfl,h0,h1⟩:=g2 x hx
   exact ⟨h0,h1⟩
  simp at hx
  subst hx
  exact ⟨by show (0:Int) ≤ ((s.length:Nat):Int);omega,by show ((s.length:Nat):Int) ≤ _;omega⟩
theorem sc_cases {s:Str} (h:s.length ≤ 600):(∃ p,sc s = .inl p ∧ scE s = 70 ∧ scP s = p ∧ scL s = []) ∨ (∃ l,sc s = .inr l ∧ scE s = 0 ∧ scP s = 0 ∧ scL s = l ++ [tEnd s.length]):=by
 cases e:sc s with
 | inl p=>exact Or.inl ⟨p,rfl,sc_bad (by omega) e⟩
 | inr l=>exact Or.inr ⟨l,rfl,sc_ok (by omega) e⟩
theorem zlb (s:Str) (w:World) (hs:s.length ≤ 1000) (hm:Mx w):Calls Tryz.prog 273 #[tx s] w fun e w'=>e = .returned (tx ([34] ++ esc s ++ [34])) ∧ Below w.heap.size w w':=by
 have h1:=zcy s 92 [92,92] w (by omega) rfl (by simp) hm
 have hl1:=zdc s
 have h2:=fun W (hW:Mx W)=>zcy (s.flatMap fun x=>if x = 92 then [92,92] else [x]) 34 [92,34] W (by omega) rfl (by simp) hW
 rw [esc_two] at h2
 have hl2:=zez s
 generalize (s.flatMap fun x=>if x = 92 then [92,92] else [x]) = r at *
 generalize esc s = q at *
 have a1:(⟨#[34]⟩:ByteArray) ++ ⟨q.toArray⟩ = ⟨([34] ++ q).toArray⟩:=zbc [34] q
 have a2:(⟨([34] ++ q).toArray⟩:ByteArray) ++ ⟨#[34]⟩ = ⟨([34] ++ q ++ [34]).toArray⟩:=zbc _ [34]
 have hlq:([34] ++ q).length ≤ 3000:=by simp;omega
 obtain ⟨u,hu⟩:∃ u,u = [34] ++ q:=⟨_,rfl⟩
 rw [← hu] at a1 a2 hlq ⊢
 obtain ⟨v,hv⟩:∃ v,v = u ++ [34]:=⟨_,rfl⟩
 rw [← hv] at a2 ⊢
 clear hu hv
 go_enter Tryz.func273,Tryz.ntmps273
 go_wp2_with fail
 refine h1.mono ?_
 rintro e w1 ⟨rfl,hb1⟩
 go_wp2_with fail
 refine (h2 _ (hm.later hb1)).mono ?_
 rintro e w2 ⟨rfl,hb2⟩
 go_wp2_with fail
 go_ret
 exact ⟨rfl,Below.chain hb1 hb2⟩
structure FineT (x:Tk):Prop where
 t:x.t.length ≤ 1000
 n0:-9223372036854775808 ≤ x.n
 n1:x.n ≤ 9223372036854775807
 d0:-9223372036854775808 ≤ x.d
 d1:x.d ≤ 9223372036854775807
theorem zlc (x:Tk) (w:World) (hf:FineT x) (he:Ev w):Calls Tryz.prog 219 #[tv x] w fun e w'=>e = .returned (tx (prT x)) ∧ Below w.heap.size w w':=by
 obtain ⟨ht,n0,n1,d0,d1⟩:=hf
 have hb0:Below w.heap.size w (w.alloc (.cells (tcs x) 161)):=bal (Below.refl _ _) _
 have he0:=he.later hb0
 have hq:=zlb x.t (w.alloc (.cells (tcs x) 161)) ht he0.mx
 have hn:=Fx.print_any x.o x.n (w.alloc (.cells (tcs x) 161)) ⟨n0,n1⟩ he0.tab
 have hd:=zct x.d (w.alloc (.cells (tcs x) 161)) d0 d1 he0.tab
 have HP:Hid (prT x = if x.k = 1 ∨ x.k = 5 then x.t else if x.k = 2 then Fx.fPrint (Fx.cnt x.o x.n) else if x.k = 3 then Lib.itoa x.d ++ [116] else if x.k = 4 then [34] ++ esc x.t ++ [34] else []):=rfl
 obtain ⟨k,p,t,o,n,d⟩:=x
 simp only at *
 generalize Fx.fPrint (Fx.cnt o n) = N at *
 generalize Lib.itoa d ++ [116] = D at *
 generalize [34] ++ esc t ++ [34] = T at *
 generalize prT ⟨k,p,t,o,n,d⟩ = R at *
 by_cases h1:k = 1
 ·
  subst h1
  have HR:Hid (R = t):=HP.out
  clear HP hq hn hd
  go_enter Tryz.func219,Tryz.ntmps219
  go_wp2
  go_ret
  exact ⟨by rw [HR.out];rfl,hb0⟩
 by_cases h5:k = 5
 ·
  subst h5
  have HR:Hid (R = t):=HP.out
  clear HP hq hn hd h1
  go_enter Tryz.func219,Tryz.ntmps219
  go_wp2
  go_ret
  exact ⟨by rw [HR.out];rfl,hb0⟩
 have b1:(k == 1) = false:=beq_eq_false_iff_ne.2 h1
 have b5:(k == 5) = false:=beq_eq_false_iff_ne.2 h5
 by_cases h2:k = 2
 ·
  subst h2
  have HR:Hid (R = N):=HP.out
  clear HP hq hd h1 h5 b1 b5
  go_enter Tryz.func219,Tryz.ntmps219
  go_wp2_with fail
  refine hn.mono ?_
  rintro e w1 ⟨rfl,hb1⟩
  go_wp2
  go_ret
  exact ⟨by rw [HR.out];rfl,Below.chain hb0 hb1⟩
 have b2:(k == 2) = false:=beq_eq_false_iff_ne.2 h2
 by_cases h3:k = 3
 ·
  subst h3
  have HR:Hid (R = D):=HP.out
  clear HP hq hn h1 h5 h2 b1 b5 b2
  go_enter Tryz.func219,Tryz.ntmps219
  go_wp2_with fail
  refine hd.mono ?_
  rintro e w1 ⟨rfl,hb1⟩
  go_wp2
  go_ret
  exact ⟨by rw [HR.out];rfl,Below.chain hb0 hb1⟩
 have b3:(k == 3) = false:=beq_eq_false_iff_ne.2 h3
 by_cases h4:k = 4
 ·
  subst h4
  have HR:Hid (R = T):=HP.out
  clear HP hn hd h1 h5 h2 h3 b1 b5 b2 b3
  go_enter Tryz.func219,Tryz.ntmps219
  go_wp2_with fail
  refine hq.mono ?_
  rintro e w1 ⟨rfl,hb1⟩
  go_wp2
  go_ret
  exact ⟨by rw [HR.out];rfl,Below.chain hb0 hb1⟩
 have b4:(k == 4) = false:=beq_eq_false_iff_ne.2 h4
 have HR:Hid (R = []):=by
  show _ = _
  rw [HP.out,if_neg (by rintro (e | e);exact h1 e;exact h5 e),if_neg h2,if_neg h3,if_neg h4]
 clear HP hn hd hq h1 h5 h2 h3 h4
 go_enter Tryz.func219,Tryz.ntmps219
 go_wp2
 go_ret
 exact ⟨by rw [HR.out];rfl,hb0⟩
def txs (l:List Tk):List Str:=(l.map prT).filter fun t=>!t.isEmpty
def prL (l:List Tk):Str:=Lib.join (txs l) [32]
theorem zlq {l:List Tk} {j:Nat} (h:j < l.length):l.getD j tk0 = l[j]:=by simp [List.getD,List.getElem?_eq_getElem h]
theorem txs_skip {l:List Tk} {j:Nat} (h:j < l.length) (e:prT (l.getD j tk0) = []):txs (l.take (j + 1)) = txs (l.take j):=by
 unfold txs
 rw [List.take_succ_eq_append_getElem h,List.map_append,List.filter_append]
 rw [zlq h] at e
 simp [e]
theorem txs_add {l:List Tk} {j:Nat} (h:j < l.length) (e:prT (l.getD j tk0) ≠ []):txs (l.take (j + 1)) = txs (l.take j) ++ [prT (l.getD j tk0)]:=by
 unfold txs
 rw [List.take_succ_eq_append_getElem h,List.map_append,List.filter_append]
 rw [zlq h] at *
 have:(prT l[j]).isEmpty = false:=by
  cases hh:prT l[j] with
  | nil=>exact absurd hh e
  | cons c r=>rfl
 simp [this]
theorem txs_le (l:List Tk) (j:Nat):(txs (l.take j)).length ≤ j:=by
 unfold txs
 refine Nat.le_trans (List.length_filter_le _ _) ?_
 simp
 omega
theorem print_any (ao:Option Addr) (n cap:Nat) (l:List Tk) (w:World) (hn:n ≤ 100000) (hts:Ts w ao n l) (hf:∀ x ∈ l,FineT x) (hj:(prL l).length ≤ 1000000) (he:Ev w) :
  Calls Tryz.prog 145 #[.slice ao n cap] w fun e w'=>e = .returned (tx (prL l)) ∧ Below w.heap.size w w':=by
 obtain ⟨i0,hi,hz0,hz1,hz2⟩:=zbz
 have HLN:Hid (l.length = n):=hts.1
 have HF:Hid (∀ x ∈ l,FineT x):=hf
 have HJ:Hid ((prL l).length ≤ 1000000):=hj
 clear hf hj
 go_enter Tryz.func145,Tryz.ntmps145
 go_wp2_with fail
 go_loopw [10,3] (fun i u wr=>∃ (j:Nat) (v:Value),j ≤ n ∧ i = .int .i64 j ∧ v = u ∧ OwnS wr w.heap.size v (txs (l.take j)) ∧ Below w.heap.size w wr) (fun i _ _=>n - (intOf i).toNat)
 case atStart=>exact ⟨0,_,by omega,rfl,rfl,World.ownsRow_made w #[] 0 (Nat.le_refl _) (Nat.zero_le _) (by simp),bal (Below.refl _ _) _⟩
 case round=>
  obtain ⟨j,v,hjn,rfl,rfl,ho,hb⟩:=hrel
  by_cases hlt:j < n
  ·
   have hjl:j < l.length:=by rw [HLN.out];exact hlt
   obtain ⟨b1,o1,rfl,_⟩:=hts.2 (by omega)
   obtain ⟨k0,k1,k2,k3,k4,k5⟩:=(hts.later hb).at j hlt
   have HS:=txs_skip hjl
   have HA:=txs_add hjl
   have hfx:=HF.out (l.getD j tk0) (by rw [zlq hjl];exact List.getElem_mem hjl)
   have hle:=txs_le l j
   generalize l.getD j tk0 = x at *
   have hpr:=zlc x (wr.alloc (.cells (tcs x) 161)) hfx ((he.later hb).later (bal (Below.refl _ _) _))
   have hb1:=bal hb (.cells (tcs x) 161)
   have ho1:=ho.later (bal (Below.refl _ _) (.cells (tcs x) 161))
   by_cases hpx:prT x = []
   ·
    have HS':Hid _:=HS hpx
    rw [hpx] at hpr
    clear HS HA hpx hfx
    go_wp2_with fail
    refine hpr.mono ?_
    rintro e w1 ⟨rfl,hb2⟩
    go_wp2
    go_roundw
    case rel=>exact ⟨j + 1,_,by omega,by go_num,rfl,by rw [HS'.out];exact ho1.later hb2,Below.chain hb1 hb2⟩
    case measure=>simp [intOf];omega
   have HA':Hid _:=HA hpx
   generalize prT x = t at *
   have ht1:(t != []) = true:=by rw [bne_iff_ne];exact hpx
   have ht2:(t == []) = false:=by rw [beq_eq_false_iff_ne];exact hpx
   have ht3:t.isEmpty = false:=by cases t with | nil=>exact absurd rfl hpx | cons c q=>rfl
   clear HS HA hpx hfx
   go_wp2_with fail
   refine hpr.mono ?_
   rintro e w1 ⟨rfl,hb2⟩
   have ho2:=(ho1.later hb2).later (bal (Below.refl _ _) (.cells #[tx t] 9))
   have hbo:=bal (Below.chain hb1 hb2) (.cells #[tx t] 9)
   go_wp2_with (at_builtin;go_must (refine wpList_append_own _ rfl _ _ 25 rfl w.heap.size 9 i0 (tx []) 1 16 Tryz.underlying25 hi hz0 hz1 hz2 rfl (by decide) _ _ _ rfl ho2 ⟨w1.heap.size,0,none⟩ 1 1 [tx t] rfl rfl (zbk (World.cell?_alloc_new w1 _ _ 0)) (fun u hu=>by cases hu with | head=>rfl | tail _ h=>cases h) ?h63 ?hby ?hbs ?_))
   case h63=>unfold maxLen;omega
   case hby=>omega
   case hbs=>exact hbo.size
   intro v' w2 ho4 hg4 _
   go_wp2
   go_roundw
   case rel=>exact ⟨j + 1,_,by omega,by go_num,rfl,by rw [HA'.out];exact OwnS.snoc ho4,hbo.grown hg4 hbo.size (fun k hk=>(World.ownsRow.lt ho2 k hk).1)⟩
   case measure=>simp [intOf];omega
  have e:l.take j = l:=List.take_of_length_le (by rw [HLN.out];omega)
  have hle:=txs_le l j
  rw [e] at ho hle
  have hjn:=zie v w.heap.size (txs l) wr ho HJ.out (by omega)
  obtain ⟨R,HE⟩:∃ R,Hid (prL l = R):=⟨_,rfl⟩
  have HR:Hid (Lib.join (txs l) [32] = R):=HE
  rw [HR.out] at hjn
  clear e HJ HF hle
  go_wp2_with fail
  refine hjn.mono ?_
  rintro e w1 ⟨rfl,hb1⟩
  go_wp2
  go_ret
  exact ⟨by rw [HE.out];rfl,Below.chain hb hb1⟩
end Go.Proofs.YtjlaihekocjggaaGreatDoor
