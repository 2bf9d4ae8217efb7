/- CounterRises, plainly. -/
import Derived.Test.YthcakiibkocheaaCShP
namespace Go.Proofs.Ythcakiibkocheaa
open Go.RowKit

/-- The counter's value behind so many steps; at place r it begins anew. -/
def ns (u : List Nat) (r : Nat) : Nat → Nat
  | 0 => 0
  | j + 1 => if j = r ∧ 0 < j then u.getD j 0 % 7 else ns u r j + u.getD j 0
/-- What it rose by. -/
def al (u : List Nat) (r : Nat) : Nat → Nat
  | 0 => 0
  | j + 1 => if 0 < j then al u r j + (if ns u r (j + 1) < ns u r j then ns u r (j + 1) else ns u r (j + 1) - ns u r j) else al u r j
theorem ns_at {u : List Nat} {r j : Nat} (h : j = r ∧ 0 < j) : ns u r (j + 1) = u.getD j 0 % 7 := if_pos h
theorem ns_on {u : List Nat} {r j : Nat} (h : ¬ (j = r ∧ 0 < j)) : ns u r (j + 1) = ns u r j + u.getD j 0 := if_neg h
theorem al_zero (u : List Nat) (r : Nat) : al u r 1 = 0 := rfl
theorem al_on {u : List Nat} {r j : Nat} (h : 0 < j) : al u r (j + 1) = al u r j + (if ns u r (j + 1) < ns u r j then ns u r (j + 1) else ns u r (j + 1) - ns u r j) := if_pos h
theorem ns_le {u : List Nat} (hu : ∀ x ∈ u, x ≤ 65535) (r : Nat) : ∀ j, ns u r j ≤ j * 65535
  | 0 => Nat.zero_le _
  | j + 1 => by
    have a := ns_le hu r j
    have b := getD_le hu j
    have e : (j + 1) * 65535 = j * 65535 + 65535 := by rw [Nat.add_mul, Nat.one_mul]
    by_cases h : j = r ∧ 0 < j
    · rw [ns_at h]
      have : u.getD j 0 % 7 ≤ u.getD j 0 := Nat.mod_le _ _
      omega
    · rw [ns_on h]
      omega
theorem ns_60 {u : List Nat} (hu : ∀ x ∈ u, x ≤ 65535) (r : Nat) {j : Nat} (hj : j ≤ 60) : ns u r j ≤ 4000000 := by
  have a := ns_le hu r j
  have b : j * 65535 ≤ 60 * 65535 := Nat.mul_le_mul_right _ hj
  omega
theorem al_le {u : List Nat} (hu : ∀ x ∈ u, x ≤ 65535) (r : Nat) : ∀ j, j ≤ 60 → al u r j ≤ j * 4000000
  | 0, _ => Nat.zero_le _
  | j + 1, h => by
    have a := al_le hu r j (by omega)
    have b := ns_60 hu r h
    have e : (j + 1) * 4000000 = j * 4000000 + 4000000 := by rw [Nat.add_mul, Nat.one_mul]
    by_cases h0 : 0 < j
    · rw [al_on h0]
      split <;> omega
    · have : al u r (j + 1) = al u r j := if_neg h0
      omega
theorem al_60 {u : List Nat} (hu : ∀ x ∈ u, x ≤ 65535) (r : Nat) {j : Nat} (hj : j ≤ 60) : al u r j ≤ 240000000 := by
  have a := al_le hu r j hj
  have b : j * 4000000 ≤ 60 * 4000000 := Nat.mul_le_mul_right _ hj
  omega
def smR (u : List Nat) (r : Nat) (j : Nat) : List Smp := (List.range j).map fun (i : Nat) => ((i : Int), false, ((ns u r (i + 1) : Nat) : Int) * 1000000)
theorem smR_len (u : List Nat) (r j : Nat) : (smR u r j).length = j := by simp [smR]
theorem smR_snoc (u : List Nat) (r j : Nat) : smR u r (j + 1) = smR u r j ++ [((j : Int), false, ((ns u r (j + 1) : Nat) : Int) * 1000000)] := by simp [smR, List.range_succ]
theorem smR_get (u : List Nat) (r : Nat) {j i : Nat} (h : i < j) : (smR u r j).getD i s0 = ((i : Int), false, ((ns u r (i + 1) : Nat) : Int) * 1000000) := by
  simp [smR, List.getD, h]
theorem smR_r64 {u : List Nat} (hu : ∀ x ∈ u, x ≤ 65535) (r : Nat) {j : Nat} (hj : j ≤ 60) : ∀ s ∈ smR u r j, R64 s.2.2 := by
  intro s hs
  obtain ⟨i, hi, rfl⟩ := List.mem_map.1 hs
  have hi := List.mem_range.1 hi
  have := ns_60 hu r (j := i + 1) (by omega)
  show -9223372036854775808 ≤ ((ns u r (i + 1) : Nat) : Int) * 1000000 ∧ ((ns u r (i + 1) : Nat) : Int) * 1000000 ≤ 9223372036854775807
  omega
theorem gs_al (u : List Nat) (r : Nat) : ∀ p, gs (fun i => ((ns u r (i + 1) : Nat) : Int) * 1000000) p = ((al u r (p + 1) : Nat) : Int) * 1000000
  | 0 => by
    show (0 : Int) = ((0 : Nat) : Int) * 1000000
    omega
  | p + 1 => by
    have ih := gs_al u r p
    have e := al_on (u := u) (r := r) (j := p + 1) (by omega)
    show gs _ p + (if ((ns u r (p + 1 + 1) : Nat) : Int) * 1000000 < ((ns u r (p + 1) : Nat) : Int) * 1000000 then ((ns u r (p + 1 + 1) : Nat) : Int) * 1000000 else ((ns u r (p + 1 + 1) : Nat) : Int) * 1000000 - ((ns u r (p + 1) : Nat) : Int) * 1000000) = _
    rw [ih, e]
    by_cases h : ns u r (p + 1 + 1) < ns u r (p + 1)
    · rw [if_pos h, if_pos (by omega)]
      omega
    · rw [if_neg h, if_neg (by omega)]
      omega
theorem smR_inc {u : List Nat} (hu : ∀ x ∈ u, x ≤ 65535) (r : Nat) {p : Nat} (hp : p + 1 ≤ 60) : incP (smR u r (p + 1)) = some (((al u r (p + 1) : Nat) : Int) * 1000000) := by
  have hb : ∀ j, j ≤ p → 0 ≤ ((ns u r (j + 1) : Nat) : Int) * 1000000 ∧ ((ns u r (j + 1) : Nat) : Int) * 1000000 ≤ 10000000000000 := fun j hj => by
    have := ns_60 hu r (j := j + 1) (by omega)
    omega
  rw [inc_gs _ (fun i => ((ns u r (i + 1) : Nat) : Int) * 1000000) p (by rw [smR_len]) (by omega) (fun j hj => by rw [smR_get u r (by omega)]) hb, gs_al]
/-- Never begun anew. -/
theorem al_never (u : List Nat) : ∀ p, al u 0 (p + 1) + u.getD 0 0 = ns u 0 (p + 1)
  | 0 => by
    show 0 + u.getD 0 0 = 0 + u.getD 0 0
    rfl
  | p + 1 => by
    have ih := al_never u p
    have e := al_on (u := u) (r := 0) (j := p + 1) (by omega)
    have e2 := ns_on (u := u) (r := 0) (j := p + 1) (by omega)
    rw [e, if_neg (by omega)]
    omega
theorem fOf_mid (a : Nat) (h : a ≤ 1000000000) : fOf (a : Int) = some ((a : Int) * 1000000) := by
  unfold fOf norm
  rw [if_pos (by omega)]
theorem r64_mid (a : Nat) (h : a ≤ 1000000000) : R64 (a : Int) := by unfold R64; omega
theorem wSub (a b c : Nat) (h : c + b = a) (hb : a ≤ 1000000000) : wrap64 ((a : Int) - b) = (c : Int) := (wf64 (by omega) (by omega)).trans (by omega)
theorem quoM (a : Nat) : ((a : Int) * 1000000).tdiv 1000000 = (a : Int) := Int.mul_tdiv_cancel _ (by decide)
end Go.Proofs.Ythcakiibkocheaa
