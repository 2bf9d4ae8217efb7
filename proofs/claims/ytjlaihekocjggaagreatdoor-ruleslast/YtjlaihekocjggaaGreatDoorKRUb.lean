/- Texts that the others lean on. -/
import Derived.Test.YtjlaihekocjggaaGreatDoorKQRMem
set_option maxHeartbeats 16000000
namespace Go.Proofs.YtjlaihekocjggaaGreatDoor
open Go.RowKit
theorem zpk (q:Bool):ub q [] = 0:=by unfold ub;rfl
theorem ub_last:ub true [92] = 1:=by unfold ub;simp
theorem ub_esc (d:UInt8) (r:Str):ub true (92 :: d :: r) = ub true r + 2:=by rw [ub.eq_def];simp
theorem zmf (q:Bool) (r:Str):ub q (34 :: r) = ub (!q) r + 1:=by rw [ub.eq_def];simp
theorem zmh (r:Str):ub false (32 :: r) = 0:=by rw [ub.eq_def];simp
theorem zmg {q:Bool} {c:UInt8} (h1:¬ (q = true ∧ c = 92)) (h2:c ≠ 34) (h3:¬ (c = 32 ∧ q = false)) (r:Str):ub q (c :: r) = ub q r + 1:=by
 rw [ub.eq_def];simp only [h1,h2,h3,if_false]
theorem ub_le:∀ (n:Nat) (s:Str),s.length ≤ n → ∀ q:Bool,ub q s ≤ s.length
 | _,[],_,q=>by rw [zpk];simp
 | 0,c :: r,h,q=>by simp at h
 | n + 1,c :: r,h,q=>by
  simp at h
  by_cases h1:q = true ∧ c = 92
  ·
   obtain ⟨rfl,rfl⟩:=h1
   cases r with
   | nil=>rw [ub_last];simp
   | cons d t=>
    have:=ub_le n t (by simp at h;omega) true
    rw [ub_esc]
    simp
    omega
  by_cases h2:c = 34
  ·
   subst h2
   have:=ub_le n r h (!q)
   rw [zmf]
   simp
   omega
  by_cases h3:c = 32 ∧ q = false
  ·
   obtain ⟨rfl,rfl⟩:=h3
   rw [zmh]
   simp
  have:=ub_le n r h q
  rw [zmg h1 h2 h3]
  simp
  omega
def ubM (s:Str) (q:Bool) (j:Nat):Nat:=min (j + ub q (s.drop j)) s.length
theorem ubM_0 (s:Str):ubM s false 0 = ub false s:=by
 have:=ub_le s.length s (Nat.le_refl _) false
 unfold ubM
 simp only [Nat.zero_add,List.drop_zero]
 omega
theorem ubM_esc {s:Str} {j:Nat} (hj:j < s.length) (h:s[j] = 92):ubM s true j = ubM s true (j + 2):=by
 unfold ubM
 rw [List.drop_eq_getElem_cons hj,h]
 by_cases h1:j + 1 < s.length
 ·
  rw [List.drop_eq_getElem_cons h1,ub_esc,show j + 1 + 1 = j + 2 from rfl]
  congr 1
  omega
 have e:s.drop (j + 1) = []:=List.drop_eq_nil_of_le (by omega)
 have e2:s.drop (j + 2) = []:=List.drop_eq_nil_of_le (by omega)
 rw [e,e2,ub_last,zpk]
 omega
theorem ubM_quote {s:Str} {j:Nat} (q:Bool) (hj:j < s.length) (h:s[j] = 34):ubM s q j = ubM s (!q) (j + 1):=by
 unfold ubM
 rw [List.drop_eq_getElem_cons hj,h,zmf]
 congr 1
 omega
theorem ubM_blank {s:Str} {j:Nat} (hj:j < s.length) (h:s[j] = 32):ubM s false j = j:=by
 unfold ubM
 rw [List.drop_eq_getElem_cons hj,h,zmh]
 omega
theorem zfr {s:Str} {j:Nat} {q:Bool} (hj:j < s.length) (h1:¬ (q = true ∧ s[j] = 92)) (h2:s[j] ≠ 34) (h3:¬ (s[j] = 32 ∧ q = false)):ubM s q j = ubM s q (j + 1):=by
 unfold ubM
 rw [List.drop_eq_getElem_cons hj,zmg h1 h2 h3]
 congr 1
 omega
theorem ubM_end {s:Str} {j:Nat} (q:Bool) (hj:s.length ≤ j):ubM s q j = s.length:=by
 unfold ubM
 rw [List.drop_eq_nil_of_le hj,zpk]
 omega
theorem ub_any (s:Str) (w:World) (hs:s.length ≤ 1000000):Calls Tryz.prog 236 #[tx s] w fun e w'=>e = .returned (.int .i64 (ub false s:Nat)) ∧ w = w':=by
 rw [← ubM_0]
 go_enter Tryz.func236,Tryz.ntmps236
 go_wp2
 go_loop [3,4] (fun q i=>∃ (qq:Bool) (j:Nat),q = .bool qq ∧ i = .int .i64 j ∧ j ≤ s.length + 1 ∧ Hid (ubM s false 0 = ubM s qq j)) (fun _ i=>s.length + 1 - (intOf i).toNat)
 case atStart=>exact ⟨false,0,rfl,rfl,by omega,rfl⟩
 case round=>
  obtain ⟨qq,j,rfl,rfl,hj,HR⟩:=hrel
  by_cases hlt:j < s.length
  ·
   have hbk:=zed hlt
   by_cases hk:(((⟨s.toArray⟩:ByteArray)[j]'hbk).toNat:Int) = 92
   ·
    have hk':((((⟨s.toArray⟩:ByteArray)[j]'hbk).toNat:Int) == 92) = true:=beq_iff_eq.2 hk
    have hq':((((⟨s.toArray⟩:ByteArray)[j]'hbk).toNat:Int) == 34) = false:=by rw [hk];rfl
    have hp':((((⟨s.toArray⟩:ByteArray)[j]'hbk).toNat:Int) == 32) = false:=by rw [hk];rfl
    have ek:=zcb (k:=92) (by decide) hk
    clear hk
    cases qq with
    | true=>
     have HN:Hid (ubM s false 0 = ubM s true (j + 2)):=by
      show _ = _
      rw [HR.out,ubM_esc hlt ek]
     clear HR ek
     go_wp2
     go_round
     case rel=>exact ⟨true,j + 2,rfl,by go_num,by omega,HN⟩
     case measure=>simp [intOf];omega
    | false=>
     have HN:Hid (ubM s false 0 = ubM s false (j + 1)):=by
      show _ = _
      rw [HR.out,zfr hlt (by simp) (fun e=>by rw [show s[j] = 92 from ek] at e;revert e;decide) (fun e=>by rw [show s[j] = 92 from ek] at e;revert e;decide)]
     clear HR ek
     go_wp2
     go_round
     case rel=>exact ⟨false,j + 1,rfl,by go_num,by omega,HN⟩
     case measure=>simp [intOf];omega
   have hk':((((⟨s.toArray⟩:ByteArray)[j]'hbk).toNat:Int) == 92) = false:=beq_eq_false_iff_ne.2 hk
   have ek:s[j] ≠ 92:=zcg (k:=92) (by decide) hk
   clear hk
   by_cases hq:(((⟨s.toArray⟩:ByteArray)[j]'hbk).toNat:Int) = 34
   ·
    have hq':((((⟨s.toArray⟩:ByteArray)[j]'hbk).toNat:Int) == 34) = true:=beq_iff_eq.2 hq
    have HN:Hid (ubM s false 0 = ubM s (!qq) (j + 1)):=by
     show _ = _
     rw [HR.out,ubM_quote qq hlt (zcb (k:=34) (by decide) hq)]
    clear HR ek hq
    cases qq <;> (
     go_wp2
     go_round
     case rel=>exact ⟨_,j + 1,rfl,by go_num,by omega,HN⟩
     case measure=>simp [intOf];omega)
   have hq':((((⟨s.toArray⟩:ByteArray)[j]'hbk).toNat:Int) == 34) = false:=beq_eq_false_iff_ne.2 hq
   have eq:s[j] ≠ 34:=zcg (k:=34) (by decide) hq
   clear hq
   by_cases hp:(((⟨s.toArray⟩:ByteArray)[j]'hbk).toNat:Int) = 32
   ·
    have hp':((((⟨s.toArray⟩:ByteArray)[j]'hbk).toNat:Int) == 32) = true:=beq_iff_eq.2 hp
    have ep:=zcb (k:=32) (by decide) hp
    clear hp
    cases qq with
    | true=>
     have HN:Hid (ubM s false 0 = ubM s true (j + 1)):=by
      show _ = _
      rw [HR.out,zfr hlt (by simp [ek]) eq (by simp)]
     clear HR ek eq ep
     go_wp2
     go_round
     case rel=>exact ⟨true,j + 1,rfl,by go_num,by omega,HN⟩
     case measure=>simp [intOf];omega
    | false=>
     have HN:Hid (ubM s false 0 = j):=by
      show _ = _
      rw [HR.out,ubM_blank hlt ep]
     clear HR ek eq ep
     go_wp2
     go_ret
     exact ⟨by rw [HN.out];rfl,rfl⟩
   have hp':((((⟨s.toArray⟩:ByteArray)[j]'hbk).toNat:Int) == 32) = false:=beq_eq_false_iff_ne.2 hp
   have ep:s[j] ≠ 32:=zcg (k:=32) (by decide) hp
   clear hp
   have HN:Hid (ubM s false 0 = ubM s qq (j + 1)):=by
    show _ = _
    rw [HR.out,zfr hlt (by simp [ek]) eq (by simp [ep])]
   clear HR ek eq ep
   cases qq <;> (
    go_wp2
    go_round
    case rel=>exact ⟨_,j + 1,rfl,by go_num,by omega,HN⟩
    case measure=>simp [intOf];omega)
  have hlt':¬ (j:Int) < s.length:=by omega
  have HN:Hid (ubM s false 0 = s.length):=by
   show _ = _
   rw [HR.out,ubM_end qq (by omega)]
  clear HR
  go_wp2
  go_ret
  exact ⟨by rw [HN.out];rfl,rfl⟩
end Go.Proofs.YtjlaihekocjggaaGreatDoor
