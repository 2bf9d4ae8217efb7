/- Scraped text in plain words: a time, a line, a body; what is printed. -/
import Derived.Test.YtcbjhfnlhpallaaGreatDoorEPlain
import Derived.Test.YtcbjhfnlhpallaaGreatDoorBaseF
import Derived.Lib.AtoiAll
import Derived.Lib.ItoaMem
namespace Go.Proofs.YtcbjhfnlhpallaaGreatDoor

/-! ### A time -/
def tmOk (s : Str) : Bool := Fx.fDigits s 7 && (decide (s.length = 1) || decide (s.head? ≠ some 48))
def tm (s : Str) : Option Nat := if tmOk s = true ∧ Fx.rd s ≤ 1000000 then some (Fx.rd s) else none
theorem dec_snoc {m d : Nat} (hm : 1 ≤ m) (hd : d < 10) : Lib.decDigits (m * 10 + d) = Lib.decDigits m ++ [UInt8.ofNat (48 + d)] := by
  rw [Lib.decDigits, dif_neg (by omega)]
  congr 2
  · congr 1; omega
  · congr 2; omega
theorem isDg_val {c : UInt8} (h : Fx.isDg c = true) : c = UInt8.ofNat (48 + (c.toNat - 48)) ∧ c.toNat - 48 < 10 := by
  unfold Fx.isDg at h
  have h := of_decide_eq_true h
  refine ⟨?_, by omega⟩
  apply UInt8.toNat.inj
  rw [Fx.digit_toNat (by omega)]
  omega
theorem rd_pos : ∀ (l : Str), Fx.dgs l = true → l ≠ [] → l.head? ≠ some 48 → 1 ≤ Fx.rd l := by
  intro l hd hn hh
  cases l with
  | nil => exact absurd rfl hn
  | cons c r =>
    have e : Fx.rd (c :: r) = Fx.rd [c] * 10 ^ r.length + Fx.rd r := by
      have := Fx.rd_append [c] r
      simpa using this
    have hc : Fx.isDg c = true := by
      unfold Fx.dgs at hd
      simp only [List.all_cons, Bool.and_eq_true] at hd
      exact hd.1
    obtain ⟨hc1, hc2⟩ := isDg_val hc
    have h0 : c.toNat - 48 ≠ 0 := fun e0 => by
      rw [e0] at hc1
      exact hh (by simp [hc1])
    have e1 : Fx.rd [c] = c.toNat - 48 := by show 0 * 10 + (c.toNat - 48) = _; omega
    rw [e, e1]
    have : 1 ≤ 10 ^ r.length := Nat.one_le_pow _ _ (by omega)
    have : 1 ≤ (c.toNat - 48) * 10 ^ r.length := Nat.le_trans this (Nat.le_mul_of_pos_left _ (by omega))
    omega
theorem dec_rd : ∀ (n : Nat) (s : Str), s.length = n → Fx.dgs s = true → s ≠ [] → (s.length = 1 ∨ s.head? ≠ some 48) → Lib.decDigits (Fx.rd s) = s := by
  intro n
  induction n with
  | zero => intro s h _ hn; exact absurd (List.length_eq_zero_iff.1 h) hn
  | succ n ih =>
    intro s hl hd hn hh
    obtain ⟨l, c, rfl⟩ : ∃ l c, s = l ++ [c] := ⟨s.dropLast, s.getLast hn, (List.dropLast_concat_getLast hn).symm⟩
    have hd' : Fx.dgs l = true ∧ Fx.isDg c = true := by rw [Fx.dgs_snoc, Bool.and_eq_true] at hd; exact hd
    obtain ⟨hc1, hc2⟩ := isDg_val hd'.2
    rw [Fx.rd_snoc]
    by_cases he : l = []
    · subst he
      show Lib.decDigits (0 * 10 + _) = _
      rw [Nat.zero_mul, Nat.zero_add, Lib.decDigits_one hc2, ← hc1]
      rfl
    · have hh' : l.head? ≠ some 48 := by
        rcases hh with hh | hh
        · exact absurd (List.length_eq_zero_iff.1 (by simpa using hh)) he
        · cases l with
          | nil => exact absurd rfl he
          | cons a l => simpa using hh
      rw [dec_snoc (rd_pos l hd'.1 he hh') hc2, ih l (by simpa using hl) hd'.1 he (Or.inr hh'), ← hc1]
theorem tmOk_of {s : Str} (h : tmOk s = true) : 1 ≤ s.length ∧ s.length ≤ 7 ∧ Fx.dgs s = true ∧ (s.length = 1 ∨ s.head? ≠ some 48) := by
  unfold tmOk at h
  rw [Bool.and_eq_true, Bool.or_eq_true, decide_eq_true_iff, decide_eq_true_iff] at h
  obtain ⟨h1, h2, h3⟩ := Fx.digits_of h.1
  exact ⟨h1, h2, h3, h.2⟩
theorem tm_some {s : Str} {u : Nat} (h : tm s = some u) : tmOk s = true ∧ u = Fx.rd s ∧ u ≤ 1000000 := by
  unfold tm at h
  split at h
  · rename_i hc
    injection h with h
    exact ⟨hc.1, h.symm, h ▸ hc.2⟩
  · cases h
theorem parse10 : ∀ (l : Str) (acc : Nat), Fx.dgs l = true → (acc + 1) * 10 ^ l.length ≤ 1000000000000000000 → Lib.parseUint10 acc l = .ok (acc * 10 ^ l.length + Fx.rd l)
  | [], acc, _, _ => by simp [Lib.parseUint10, Fx.rd]
  | c :: r, acc, hd, hb => by
    have hd' : Fx.isDg c = true ∧ Fx.dgs r = true := by
      unfold Fx.dgs at hd ⊢
      simpa only [List.all_cons, Bool.and_eq_true] using hd
    have hc := hd'.1
    unfold Fx.isDg at hc
    have hc := of_decide_eq_true hc
    have hp : 1 ≤ 10 ^ r.length := Nat.one_le_pow _ _ (by omega)
    have e10 : 10 ^ (c :: r).length = 10 * 10 ^ r.length := by rw [List.length_cons, Nat.pow_succ]; omega
    rw [e10] at hb
    have hb1 : (acc + 1) * 10 * 10 ^ r.length ≤ 1000000000000000000 := by rw [Nat.mul_assoc]; exact hb
    have hb2 : (acc + 1) * 10 ≤ 1000000000000000000 := Nat.le_trans (Nat.le_mul_of_pos_right _ hp) hb1
    have hb3 : (acc * 10 + (c.toNat - 48) + 1) * 10 ^ r.length ≤ 1000000000000000000 := Nat.le_trans (Nat.mul_le_mul_right _ (by omega)) hb1
    rw [Lib.parseUint10, if_pos (by omega), if_neg (by omega), if_neg (by omega), parse10 r _ hd'.2 hb3, e10]
    have e1 : Fx.rd (c :: r) = Fx.rd [c] * 10 ^ r.length + Fx.rd r := by
      have := Fx.rd_append [c] r
      simpa using this
    have e2 : Fx.rd [c] = c.toNat - 48 := by show 0 * 10 + (c.toNat - 48) = _; omega
    rw [e1, e2, Nat.add_mul, Nat.mul_assoc]
    congr 1
    omega
theorem atoi_tm {s : Str} {u : Nat} (h : tm s = some u) : Lib.atoiAll s = .ok (u : Int) ∧ Lib.itoa (u : Int) = s ∧ u ≤ 1000000 := by
  obtain ⟨h1, rfl, h3⟩ := tm_some h
  obtain ⟨l1, l2, hd, hh⟩ := tmOk_of h1
  have hne : s ≠ [] := fun e => by subst e; simp at l1
  refine ⟨?_, by rw [Lib.itoa_nonneg]; exact dec_rd _ s rfl hd hne hh, h3⟩
  have hp : Lib.parseMag s = .ok (Fx.rd s) := by
    unfold Lib.parseMag
    rw [if_neg hne, parse10 s 0 hd (by
      have : 10 ^ s.length ≤ 10 ^ 7 := Nat.pow_le_pow_right (by omega) l2
      omega)]
    simp
  cases s with
  | nil => exact absurd rfl hne
  | cons c r =>
    have hc : Fx.isDg c = true := by
      unfold Fx.dgs at hd
      simp only [List.all_cons, Bool.and_eq_true] at hd
      exact hd.1
    unfold Fx.isDg at hc
    have hc := of_decide_eq_true hc
    unfold Lib.atoiAll
    simp only
    rw [if_neg (by omega), hp]
    simp only
    rw [if_neg (by omega), if_neg (by omega), if_neg (by omega)]
theorem tm_atoi {s : Str} {v : Int} (hp : Lib.itoa v = s) (h0 : 0 ≤ v) (h1 : v ≤ 1000000) : tm s = some v.toNat := by
  obtain ⟨u, rfl⟩ : ∃ u : Nat, v = u := ⟨v.toNat, by omega⟩
  rw [Lib.itoa_nonneg] at hp
  subst hp
  have hl := Fx.dec_le 6 u (by omega)
  have hn := Fx.dec_ne u
  have hl1 : 1 ≤ (Lib.decDigits u).length := by
    rcases Nat.eq_zero_or_pos (Lib.decDigits u).length with h | h
    · exact absurd (List.length_eq_zero_iff.1 h) hn
    · exact h
  unfold tm
  rw [Fx.rd_dec, if_pos]
  · simp
  · refine ⟨?_, by omega⟩
    unfold tmOk Fx.fDigits
    rw [Fx.dgs_dec]
    simp only [Bool.and_eq_true, Bool.or_eq_true, decide_eq_true_iff, Bool.and_true]
    refine ⟨⟨hl1, hl⟩, ?_⟩
    by_cases hu : 1 ≤ u
    · exact Or.inr (Fx.head_dec hu)
    · obtain rfl : u = 0 := by omega
      exact Or.inl (by rw [Lib.decDigits_one (by omega)]; rfl)

/-! ### A line -/
structure Scr where
  ls : List Pr
  ov : Bool
  n : Int
  t : Int
  has : Bool
  kind : Int
def scr0 : Scr := ⟨[], false, 0, 0, false, 0⟩
def eqS (a b : Scr) : Bool := decide (a.ls = b.ls) && (decide (a.ov = b.ov ∧ a.n = b.n) && (decide (a.t = b.t) && (decide (a.has = b.has) && decide (a.kind = b.kind))))
theorem eqS_iff (a b : Scr) : eqS a b = true ↔ a = b := by
  obtain ⟨a1, a2, a3, a4, a5, a6⟩ := a
  obtain ⟨b1, b2, b3, b4, b5, b6⟩ := b
  simp [eqS, and_assoc]
def fSet (a : Str) : Bool := okParse a && fName (fGet (parseL a) nm)
def wE : List Str → Int
  | [a, b] => if fSet a = true then Fx.pe (Fx.fParse b) else 30
  | [a, b, c] => if fSet a = true then (if Fx.pe (Fx.fParse b) = 0 then (if (tm c).isSome = true then 0 else 152) else 20) else 30
  | _ => 12
def wS : List Str → Scr
  | [a, b] => ⟨parseL a, Fx.po (Fx.fParse b), Fx.pn (Fx.fParse b), 0, false, 0⟩
  | [a, b, c] => ⟨parseL a, Fx.po (Fx.fParse b), Fx.pn (Fx.fParse b), (((tm c).getD 0 : Nat) : Int), true, 0⟩
  | _ => scr0
def lineE (s : Str) : Int := if 300 < s.length then 11 else wE (wd s)
def lineS (s : Str) : Scr := if lineE s = 0 then wS (wd s) else scr0
theorem pe_cases (x : Option (Option Int)) : Fx.pe x = 0 ∨ Fx.pe x = 20 := by cases x <;> simp [Fx.pe]
theorem wE_cases (l : List Str) : wE l = 0 ∨ wE l = 12 ∨ wE l = 20 ∨ wE l = 30 ∨ wE l = 152 := by
  unfold wE
  split
  · split
    · rename_i b _
      rcases pe_cases (Fx.fParse b) with h | h
      · exact Or.inl h
      · exact Or.inr (Or.inr (Or.inl h))
    · simp
  · split
    · split
      · split <;> simp
      · simp
    · simp
  · simp
theorem lineE_cases (s : Str) : lineE s = 0 ∨ lineE s = 11 ∨ lineE s = 12 ∨ lineE s = 20 ∨ lineE s = 30 ∨ lineE s = 152 := by
  unfold lineE
  split
  · simp
  · rcases wE_cases (wd s) with h | h | h | h | h <;> simp [h]

/-! ### A body -/
structure St where
  k : Str → Int
  out : List Scr
  bad : List (Int × Int)
def st0 : St := ⟨fun _ => 0, [], []⟩
def upd (k : Str → Int) (n : Str) (x : Int) : Str → Int := fun s => if s = n then x else k s
def mname (x : Scr) : Str := fGet x.ls nm
def setK (x : Scr) (k : Int) : Scr := ⟨x.ls, x.ov, x.n, x.t, x.has, k⟩
def noted (st : St) : Option (Str × Int) → St
  | some p => ⟨upd st.k p.1 p.2, st.out, st.bad⟩
  | none => st
def stepL (st : St) (i : Nat) (s : Str) : St :=
  if s = [] then st
  else if s.head? = some 35 then noted st (fNote s)
  else if lineE s = 0 then ⟨st.k, st.out ++ [setK (lineS s) (st.k (mname (lineS s)))], st.bad⟩
  else ⟨st.k, st.out, st.bad ++ [((i : Int), lineE s)]⟩
def runL (st : St) : Nat → List Str → St
  | _, [] => st
  | i, s :: r => runL (stepL st i s) (i + 1) r
def bodyS (s : Str) : St := if 3000 < s.length then ⟨fun _ => 0, [], [(0, 11)]⟩ else runL st0 1 (sp 10 s)
theorem runL_append (l m : List Str) : ∀ (st : St) (i : Nat), runL st i (l ++ m) = runL (runL st i l) (i + l.length) m := by
  induction l with
  | nil => intro st i; simp [runL]
  | cons a l ih => intro st i; rw [List.cons_append, runL, runL, ih, List.length_cons]; congr 1; omega

/-! ### Printed -/
def fIsS (x : Scr) : Bool := fIs x.ls && (fName (mname x) && (Fx.fIs x.ov x.n && (decide (0 ≤ x.t ∧ x.t ≤ 1000000) && ((x.has || decide (x.t = 0)) && decide (0 ≤ x.kind ∧ x.kind ≤ 2)))))
def sLine (x : Scr) : Str := fPrint x.ls ++ [32] ++ Fx.fPrint (Fx.cnt x.ov x.n) ++ (if x.has = true then 32 :: Lib.itoa x.t else [])
def kLine (n : Str) (k : Int) : Str := [35, 32, 84, 89, 80, 69, 32] ++ n ++ [32] ++ kwd k
def good (x : Scr) : Bool := fIsS x && decide ((sLine x).length ≤ 300)
def prL (k : Str → Int) : List Scr → List Str
  | [] => []
  | x :: r => if k (mname x) = x.kind then sLine x :: prL k r else kLine (mname x) x.kind :: sLine x :: prL (upd k (mname x) x.kind) r
def ended (l : List Str) : Str := l.flatMap fun s => s ++ [10]
def fPrintS (l : List Scr) : Str := if l.all good = true then ended (prL (fun _ => 0) l) else []
end Go.Proofs.YtcbjhfnlhpallaaGreatDoor
