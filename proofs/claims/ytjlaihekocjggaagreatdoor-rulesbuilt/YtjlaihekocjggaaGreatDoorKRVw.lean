/- Texts that the others lean on. -/
import Derived.Test.YtjlaihekocjggaaGreatDoorKRParse
set_option maxHeartbeats 16000000
namespace Go.Proofs.YtjlaihekocjggaaGreatDoor
open Go.RowKit
theorem zik (k:Nat):∀ (css:List (Array Value)) (i:Nat) (cs:Array Value),(∀ x ∈ css,x.size = k) → css[i]? = some cs → ∀ j,j < k → (css.flatMap (·.toList))[i * k + j]? = cs[j]?
 | [],i,cs,_,h,_,_=>by simp at h
 | a :: t,0,cs,hs,h,j,hj=>by
  simp at h
  subst h
  have:=hs a (by simp)
  rw [List.flatMap_cons,Nat.zero_mul,Nat.zero_add,List.getElem?_append_left (by simp;omega)]
  simp
 | a :: t,i + 1,cs,hs,h,j,hj=>by
  have ha:=hs a (by simp)
  have ih:=zik k t i cs (fun x hx=>hs x (by simp [hx])) (by simpa using h) j hj
  rw [List.flatMap_cons,List.getElem?_append_right (by simp [ha,Nat.add_mul];omega),← ih]
  congr 1
  simp [ha,Nat.add_mul]
  omega
def Sv (w:World) (ao:Option Addr) (k:Nat) (css:List (Array Value)):Prop:=∀ (i:Nat) cs,css[i]? = some cs → ∃ b off,ao = some ⟨b,off,none⟩ ∧ w.rangeAt b (off + i * k) cs.toList
theorem Sv.later {w w':World} {ao:Option Addr} {k:Nat} {css:List (Array Value)} (h:Sv w ao k css) (hb:Below w.heap.size w w'):Sv w' ao k css:=fun i cs hi=>by
 obtain ⟨b,off,e,hr⟩:=h i cs hi
 exact ⟨b,off,e,zes hr hb⟩
theorem Sv.of {P:Nat → Prop} {w:World} {v:Value} {n k:Nat} {css:List (Array Value)} (h:SlP P w v n (css.flatMap (·.toList))) (hl:css.length = n) (hs:∀ x ∈ css,x.size = k):∃ ao cap,v = .slice ao n cap ∧ n ≤ cap ∧ Sv w ao k css:=by
 obtain ⟨ao,cap,e,hc,h4⟩:=h
 refine ⟨ao,cap,e,hc,fun i cs hi=>?_⟩
 have hlt:=(List.getElem?_eq_some_iff.1 hi).1
 obtain ⟨b,off,e1,_,hcs⟩:=h4 (by omega)
 refine ⟨b,off,e1,?_⟩
 intro j x hx
 have hz:=hs cs (List.mem_of_getElem? hi)
 have hj:j < k:=by
  have:=(List.getElem?_eq_some_iff.1 hx).1
  simp at this
  omega
 have hg:=zik k css i cs hs hi j hj
 have hx':cs[j]? = some x:=by simpa using hx
 rw [hx'] at hg
 have:=hcs (i * k + j) (List.getElem?_eq_some_iff.1 hg).1
 rw [hg] at this
 rw [Nat.add_assoc]
 exact this
theorem Sv.take {w:World} {ao:Option Addr} {k:Nat} {css:List (Array Value)} (h:Sv w ao k css) (m:Nat):Sv w ao k (css.take m):=fun i cs hi=>by
 by_cases hm:i < m
 ·
  rw [List.getElem?_take_of_lt hm] at hi
  exact h i cs hi
 rw [List.getElem?_take_eq_none (by omega)] at hi
 cases hi
theorem zen (n:Nat) (p:Nat → Bool):(List.range n).all p = true ↔ ∀ i,i < n → p i = true:=by simp
theorem zcs {n i:Nat} {p:Nat → Bool} (hi:i < n) (h:p i = false):(List.range n).all p = false:=by
 rw [List.all_eq_false]
 exact ⟨i,by simpa using hi,by simp [h]⟩
theorem all56_any {w:World} {ao:Option Addr} {cap n:Nat} (css:List (Array Value)) (hl:css.length = n) (hn:n ≤ 1000000) (p:Nat → Bool) (hk:Sv w ao 6 css) (hrow:∀ cs ∈ css,Row 6 cs)
  (hp:∀ (i:Nat) cs,css[i]? = some cs → ∀ W,Below w.heap.size w W → Calls Tryz.prog 57 #[.agg cs] W fun e w'=>e = .returned (.bool (p i)) ∧ Below W.heap.size W w') :
  Calls Tryz.prog 56 #[.slice ao n cap,.func (.func 57) #[] #[]] w fun e w'=>e = .returned (.bool ((List.range n).all p)) ∧ Below w.heap.size w w':=by
 have HK:Hid (Sv w ao 6 css):=hk
 have HR:Hid (∀ cs ∈ css,Row 6 cs):=hrow
 have HP:Hid (∀ (i:Nat) cs,css[i]? = some cs → ∀ W,Below w.heap.size w W → Calls Tryz.prog 57 #[.agg cs] W fun e w'=>e = .returned (.bool (p i)) ∧ Below W.heap.size W w'):=hp
 have HN:Hid (css.length = n):=hl
 clear hk hl hp hrow
 obtain ⟨Q,HQ⟩:∃ Q,Hid ((List.range n).all p = Q):=⟨_,(rfl:(List.range n).all p = (List.range n).all p)⟩
 rw [HQ.out]
 go_enter Tryz.func56,Tryz.ntmps56
 go_wp2_with fail
 go_loopw [9] (fun i wr=>∃ k:Nat,k ≤ n ∧ i = .int .i64 k ∧ Below w.heap.size w wr ∧ Hid (∀ j,j < k → p j = true)) (fun i _=>n - (intOf i).toNat)
 case atStart=>exact ⟨0,by omega,rfl,Below.refl _ _,fun j hj=>by omega⟩
 case round=>
  obtain ⟨k,hk,rfl,B,HA⟩:=hrel
  by_cases hlt:k < n
  ·
   have hlt':(k:Int) < n:=by omega
   obtain ⟨cs,hcs⟩:∃ cs,css[k]? = some cs:=⟨_,List.getElem?_eq_getElem (by have:=HN.out;omega)⟩
   obtain ⟨b,off,ea,hr⟩:=(Sv.later HK.out B) k cs hcs
   have row:=HR.out cs (List.mem_of_getElem? hcs)
   have hpk:=fun W hW=>HP.out k cs hcs W hW
   subst ea
   have q0:=zac wr (.cells #[.int .i64 0,.string ⟨#[]⟩,.int .i64 0,.string ⟨#[]⟩,.string ⟨#[]⟩,.string ⟨#[]⟩] 59)
   have HNo:Hid (p k = false → Q = false):=fun h=>by rw [← HQ.out];exact zcs hlt h
   have HYes:Hid (p k = true → ∀ j,j < k + 1 → p j = true):=fun h j hj=>by
    by_cases e:j = k
    ·
     subst e;exact h
    exact HA.out j (by omega)
   clear HA HK HP HR hcs
   cases hq:p k with
   | true=>
    have HZ:Hid _:=HYes.out hq
    simp only [hq] at hpk
    clear HNo HYes hq
    go_wp2_with (first | (refine zbi rfl 59 _ rfl b (off + k * 6) cs rfl hr _ Tryz.underlying59 rfl 6 rz59 row.1 ?_) | (refine zad rfl 59 _ _ rfl wr.heap.size cs rfl rfl _ 59 q0 6 rz59 rfl row ?_;intro w2 q2 o2 z2;have b2:=((Off.of (bal (Below.refl wr.heap.size wr) (.cells #[.int .i64 0,.string ⟨#[]⟩,.int .i64 0,.string ⟨#[]⟩,.string ⟨#[]⟩,.string ⟨#[]⟩] 59)) []).trans o2 (by simp)).below (by simp)) | (refine zaj rfl 59 _ rfl wr.heap.size cs 59 rfl q2 _ Tryz.underlying59 rfl 6 rz59 row.1 ?_))
    have B2:=Below.chain B b2
    refine (hpk _ B2).mono ?_
    rintro e w3 ⟨rfl,b3⟩
    have B3:=Below.chain B2 b3
    go_wp2_with fail
    go_roundw
    case rel=>exact ⟨k + 1,by omega,by go_num,B3,HZ⟩
    case measure=>simp [intOf];omega
   | false=>
    have HZ:Hid (Q = false):=HNo.out hq
    simp only [hq] at hpk
    clear HNo HYes hq
    go_wp2_with (first | (refine zbi rfl 59 _ rfl b (off + k * 6) cs rfl hr _ Tryz.underlying59 rfl 6 rz59 row.1 ?_) | (refine zad rfl 59 _ _ rfl wr.heap.size cs rfl rfl _ 59 q0 6 rz59 rfl row ?_;intro w2 q2 o2 z2;have b2:=((Off.of (bal (Below.refl wr.heap.size wr) (.cells #[.int .i64 0,.string ⟨#[]⟩,.int .i64 0,.string ⟨#[]⟩,.string ⟨#[]⟩,.string ⟨#[]⟩] 59)) []).trans o2 (by simp)).below (by simp)) | (refine zaj rfl 59 _ rfl wr.heap.size cs 59 rfl q2 _ Tryz.underlying59 rfl 6 rz59 row.1 ?_))
    have B2:=Below.chain B b2
    refine (hpk _ B2).mono ?_
    rintro e w3 ⟨rfl,b3⟩
    have B3:=Below.chain B2 b3
    go_wp2_with fail
    go_ret
    exact ⟨by rw [HZ.out];rfl,B3⟩
  have hlt':¬ (k:Int) < n:=by omega
  have HZ:Hid (Q = true):=by
   show _ = _
   rw [← HQ.out,zen]
   exact fun i hi=>HA.out i (by omega)
  clear HA HK HP HR
  go_wp2_with fail
  go_ret
  exact ⟨by rw [HZ.out];rfl,B⟩
theorem all58_any {w:World} {ao:Option Addr} {cap n:Nat} (css:List (Array Value)) (hl:css.length = n) (hn:n ≤ 1000000) (p:Nat → Bool) (hk:Sv w ao 3 css) (hrow:∀ cs ∈ css,Row 3 cs)
  (hp:∀ (i:Nat) cs,css[i]? = some cs → ∀ W,Below w.heap.size w W → Calls Tryz.prog 59 #[.agg cs] W fun e w'=>e = .returned (.bool (p i)) ∧ Below W.heap.size W w') :
  Calls Tryz.prog 58 #[.slice ao n cap,.func (.func 59) #[] #[]] w fun e w'=>e = .returned (.bool ((List.range n).all p)) ∧ Below w.heap.size w w':=by
 have HK:Hid (Sv w ao 3 css):=hk
 have HR:Hid (∀ cs ∈ css,Row 3 cs):=hrow
 have HP:Hid (∀ (i:Nat) cs,css[i]? = some cs → ∀ W,Below w.heap.size w W → Calls Tryz.prog 59 #[.agg cs] W fun e w'=>e = .returned (.bool (p i)) ∧ Below W.heap.size W w'):=hp
 have HN:Hid (css.length = n):=hl
 clear hk hl hp hrow
 obtain ⟨Q,HQ⟩:∃ Q,Hid ((List.range n).all p = Q):=⟨_,(rfl:(List.range n).all p = (List.range n).all p)⟩
 rw [HQ.out]
 go_enter Tryz.func58,Tryz.ntmps58
 go_wp2_with fail
 go_loopw [9] (fun i wr=>∃ k:Nat,k ≤ n ∧ i = .int .i64 k ∧ Below w.heap.size w wr ∧ Hid (∀ j,j < k → p j = true)) (fun i _=>n - (intOf i).toNat)
 case atStart=>exact ⟨0,by omega,rfl,Below.refl _ _,fun j hj=>by omega⟩
 case round=>
  obtain ⟨k,hk,rfl,B,HA⟩:=hrel
  by_cases hlt:k < n
  ·
   have hlt':(k:Int) < n:=by omega
   obtain ⟨cs,hcs⟩:∃ cs,css[k]? = some cs:=⟨_,List.getElem?_eq_getElem (by have:=HN.out;omega)⟩
   obtain ⟨b,off,ea,hr⟩:=(Sv.later HK.out B) k cs hcs
   have row:=HR.out cs (List.mem_of_getElem? hcs)
   have hpk:=fun W hW=>HP.out k cs hcs W hW
   subst ea
   have q0:=zac wr (.cells #[.string ⟨#[]⟩,.int .i64 0,.slice none 0 0] 62)
   have HNo:Hid (p k = false → Q = false):=fun h=>by rw [← HQ.out];exact zcs hlt h
   have HYes:Hid (p k = true → ∀ j,j < k + 1 → p j = true):=fun h j hj=>by
    by_cases e:j = k
    ·
     subst e;exact h
    exact HA.out j (by omega)
   clear HA HK HP HR hcs
   cases hq:p k with
   | true=>
    have HZ:Hid _:=HYes.out hq
    simp only [hq] at hpk
    clear HNo HYes hq
    go_wp2_with (first | (refine zbi rfl 62 _ rfl b (off + k * 3) cs rfl hr _ Tryz.underlying62 rfl 3 rz62 row.1 ?_) | (refine zad rfl 62 _ _ rfl wr.heap.size cs rfl rfl _ 62 q0 3 rz62 rfl row ?_;intro w2 q2 o2 z2;have b2:=((Off.of (bal (Below.refl wr.heap.size wr) (.cells #[.string ⟨#[]⟩,.int .i64 0,.slice none 0 0] 62)) []).trans o2 (by simp)).below (by simp)) | (refine zaj rfl 62 _ rfl wr.heap.size cs 62 rfl q2 _ Tryz.underlying62 rfl 3 rz62 row.1 ?_))
    have B2:=Below.chain B b2
    refine (hpk _ B2).mono ?_
    rintro e w3 ⟨rfl,b3⟩
    have B3:=Below.chain B2 b3
    go_wp2_with fail
    go_roundw
    case rel=>exact ⟨k + 1,by omega,by go_num,B3,HZ⟩
    case measure=>simp [intOf];omega
   | false=>
    have HZ:Hid (Q = false):=HNo.out hq
    simp only [hq] at hpk
    clear HNo HYes hq
    go_wp2_with (first | (refine zbi rfl 62 _ rfl b (off + k * 3) cs rfl hr _ Tryz.underlying62 rfl 3 rz62 row.1 ?_) | (refine zad rfl 62 _ _ rfl wr.heap.size cs rfl rfl _ 62 q0 3 rz62 rfl row ?_;intro w2 q2 o2 z2;have b2:=((Off.of (bal (Below.refl wr.heap.size wr) (.cells #[.string ⟨#[]⟩,.int .i64 0,.slice none 0 0] 62)) []).trans o2 (by simp)).below (by simp)) | (refine zaj rfl 62 _ rfl wr.heap.size cs 62 rfl q2 _ Tryz.underlying62 rfl 3 rz62 row.1 ?_))
    have B2:=Below.chain B b2
    refine (hpk _ B2).mono ?_
    rintro e w3 ⟨rfl,b3⟩
    have B3:=Below.chain B2 b3
    go_wp2_with fail
    go_ret
    exact ⟨by rw [HZ.out];rfl,B3⟩
  have hlt':¬ (k:Int) < n:=by omega
  have HZ:Hid (Q = true):=by
   show _ = _
   rw [← HQ.out,zen]
   exact fun i hi=>HA.out i (by omega)
  clear HA HK HP HR
  go_wp2_with fail
  go_ret
  exact ⟨by rw [HZ.out];rfl,B⟩
theorem zpf {w:World} {ao:Option Addr} {cap n:Nat} (css:List (Array Value)) (hl:css.length = n) (hn:n ≤ 1000000) (p:Nat → Bool) (hk:Sv w ao 15 css) (hrow:∀ cs ∈ css,Row 15 cs)
  (hp:∀ (i:Nat) cs,css[i]? = some cs → ∀ W,Below w.heap.size w W → Calls Tryz.prog 106 #[.agg cs] W fun e w'=>e = .returned (.bool (p i)) ∧ Below W.heap.size W w') :
  Calls Tryz.prog 105 #[.slice ao n cap,.func (.func 106) #[] #[]] w fun e w'=>e = .returned (.bool ((List.range n).all p)) ∧ Below w.heap.size w w':=by
 have HK:Hid (Sv w ao 15 css):=hk
 have HR:Hid (∀ cs ∈ css,Row 15 cs):=hrow
 have HP:Hid (∀ (i:Nat) cs,css[i]? = some cs → ∀ W,Below w.heap.size w W → Calls Tryz.prog 106 #[.agg cs] W fun e w'=>e = .returned (.bool (p i)) ∧ Below W.heap.size W w'):=hp
 have HN:Hid (css.length = n):=hl
 clear hk hl hp hrow
 obtain ⟨Q,HQ⟩:∃ Q,Hid ((List.range n).all p = Q):=⟨_,(rfl:(List.range n).all p = (List.range n).all p)⟩
 rw [HQ.out]
 go_enter Tryz.func105,Tryz.ntmps105
 go_wp2_with fail
 go_loopw [9] (fun i wr=>∃ k:Nat,k ≤ n ∧ i = .int .i64 k ∧ Below w.heap.size w wr ∧ Hid (∀ j,j < k → p j = true)) (fun i _=>n - (intOf i).toNat)
 case atStart=>exact ⟨0,by omega,rfl,Below.refl _ _,fun j hj=>by omega⟩
 case round=>
  obtain ⟨k,hk,rfl,B,HA⟩:=hrel
  by_cases hlt:k < n
  ·
   have hlt':(k:Int) < n:=by omega
   obtain ⟨cs,hcs⟩:∃ cs,css[k]? = some cs:=⟨_,List.getElem?_eq_getElem (by have:=HN.out;omega)⟩
   obtain ⟨b,off,ea,hr⟩:=(Sv.later HK.out B) k cs hcs
   have row:=HR.out cs (List.mem_of_getElem? hcs)
   have hpk:=fun W hW=>HP.out k cs hcs W hW
   subst ea
   have q0:=zac wr (.cells #[.string ⟨#[]⟩,.int .i64 0,.int .i64 0,.bool false,.int .i64 0,.string ⟨#[]⟩,.slice none 0 0,.int .i64 0,.bool false,.bool false,.bool false,.bool false,.slice none 0 0,.slice none 0 0,.slice none 0 0] 65)
   have HNo:Hid (p k = false → Q = false):=fun h=>by rw [← HQ.out];exact zcs hlt h
   have HYes:Hid (p k = true → ∀ j,j < k + 1 → p j = true):=fun h j hj=>by
    by_cases e:j = k
    ·
     subst e;exact h
    exact HA.out j (by omega)
   clear HA HK HP HR hcs
   cases hq:p k with
   | true=>
    have HZ:Hid _:=HYes.out hq
    simp only [hq] at hpk
    clear HNo HYes hq
    go_wp2_with (first | (refine zbi rfl 65 _ rfl b (off + k * 15) cs rfl hr _ Tryz.underlying65 rfl 15 rz65 row.1 ?_) | (refine zad rfl 65 _ _ rfl wr.heap.size cs rfl rfl _ 65 q0 15 rz65 rfl row ?_;intro w2 q2 o2 z2;have b2:=((Off.of (bal (Below.refl wr.heap.size wr) (.cells #[.string ⟨#[]⟩,.int .i64 0,.int .i64 0,.bool false,.int .i64 0,.string ⟨#[]⟩,.slice none 0 0,.int .i64 0,.bool false,.bool false,.bool false,.bool false,.slice none 0 0,.slice none 0 0,.slice none 0 0] 65)) []).trans o2 (by simp)).below (by simp)) | (refine zaj rfl 65 _ rfl wr.heap.size cs 65 rfl q2 _ Tryz.underlying65 rfl 15 rz65 row.1 ?_))
    have B2:=Below.chain B b2
    refine (hpk _ B2).mono ?_
    rintro e w3 ⟨rfl,b3⟩
    have B3:=Below.chain B2 b3
    go_wp2_with fail
    go_roundw
    case rel=>exact ⟨k + 1,by omega,by go_num,B3,HZ⟩
    case measure=>simp [intOf];omega
   | false=>
    have HZ:Hid (Q = false):=HNo.out hq
    simp only [hq] at hpk
    clear HNo HYes hq
    go_wp2_with (first | (refine zbi rfl 65 _ rfl b (off + k * 15) cs rfl hr _ Tryz.underlying65 rfl 15 rz65 row.1 ?_) | (refine zad rfl 65 _ _ rfl wr.heap.size cs rfl rfl _ 65 q0 15 rz65 rfl row ?_;intro w2 q2 o2 z2;have b2:=((Off.of (bal (Below.refl wr.heap.size wr) (.cells #[.string ⟨#[]⟩,.int .i64 0,.int .i64 0,.bool false,.int .i64 0,.string ⟨#[]⟩,.slice none 0 0,.int .i64 0,.bool false,.bool false,.bool false,.bool false,.slice none 0 0,.slice none 0 0,.slice none 0 0] 65)) []).trans o2 (by simp)).below (by simp)) | (refine zaj rfl 65 _ rfl wr.heap.size cs 65 rfl q2 _ Tryz.underlying65 rfl 15 rz65 row.1 ?_))
    have B2:=Below.chain B b2
    refine (hpk _ B2).mono ?_
    rintro e w3 ⟨rfl,b3⟩
    have B3:=Below.chain B2 b3
    go_wp2_with fail
    go_ret
    exact ⟨by rw [HZ.out];rfl,B3⟩
  have hlt':¬ (k:Int) < n:=by omega
  have HZ:Hid (Q = true):=by
   show _ = _
   rw [← HQ.out,zen]
   exact fun i hi=>HA.out i (by omega)
  clear HA HK HP HR
  go_wp2_with fail
  go_ret
  exact ⟨by rw [HZ.out];rfl,B⟩
end Go.Proofs.YtjlaihekocjggaaGreatDoor
