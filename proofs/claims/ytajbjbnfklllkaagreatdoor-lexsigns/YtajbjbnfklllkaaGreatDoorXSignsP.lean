/- Signs with blanks between are what was written: nothing of the program is run here. -/
import Derived.Test.YtajbjbnfklllkaaGreatDoorXJoinP
import Derived.Test.YtajbjbnfklllkaaGreatDoorXSigns0
namespace Go.Proofs.YtajbjbnfklllkaaGreatDoor
open Go.RowKit

def cat : List Str → Str
  | [] => []
  | x :: r => x ++ 32 :: cat r
theorem cat_snoc (l : List Str) (x : Str) : cat (l ++ [x]) = cat l ++ (x ++ [32]) := by
  induction l with
  | nil => simp [cat]
  | cons y l ih => rw [List.cons_append, cat, ih, cat]; simp
theorem cat_len (l : List Str) (h : ∀ x ∈ l, x.length ≤ 2) : (cat l).length ≤ 3 * l.length := by
  induction l with
  | nil => simp [cat]
  | cons x l ih =>
    have h1 := h x (by simp)
    have h2 := ih (fun y hy => h y (by simp [hy]))
    rw [cat]
    simp
    omega
theorem scan_cat (n : Nat) : ∀ (ws : List Str), (∀ x ∈ ws, isSg x = true) → ∃ m, scanG n (lead (cat ws)) = .inr m ∧ m.map (fun x => x.put 0) = ws.map tSign
  | [], _ => ⟨[], scanG_nil n, rfl⟩
  | x :: ws, h => by
    obtain ⟨m, m1, m2⟩ := scan_cat n ws (fun y hy => h y (by simp [hy]))
    have hx : Okt (tSign x) := Or.inr (Or.inr (Or.inr (Or.inr ⟨x, h x (by simp), rfl⟩)))
    have ht := tok_print (r := 32 :: cat ws) hx (Or.inr ⟨_, rfl⟩)
    obtain ⟨c, q, e, hb⟩ := pr_head hx
    rw [pr_sign] at ht e
    have hne : x ++ 32 :: cat ws ≠ [] := by simp
    have hl := sign_len (h x (by simp))
    have hlead : lead (cat (x :: ws)) = x ++ 32 :: cat ws := by
      rw [cat, e, List.cons_append]
      exact lead_cons hb
    refine ⟨(tSign x).put ((n - (x ++ 32 :: cat ws).length : Nat) : Int) :: m, ?_, ?_⟩
    · rw [hlead, scanG_some hne ht hl.1, List.drop_left, lead_blank (by decide), m1]
      rfl
    · rw [List.map_cons, m2]
      rfl
def sgOf (c : UInt8) : Str := sgL.getD (c.toNat % 20) []
theorem sgOf_is (c : UInt8) : isSg (sgOf c) = true := by
  unfold sgOf
  have h : c.toNat % 20 < 20 := Nat.mod_lt _ (by omega)
  generalize c.toNat % 20 = k at *
  match k, h with
  | 0, _ | 1, _ | 2, _ | 3, _ | 4, _ | 5, _ | 6, _ | 7, _ | 8, _ | 9, _ | 10, _ | 11, _ | 12, _ | 13, _ | 14, _ | 15, _ | 16, _ | 17, _ | 18, _ | 19, _ => rfl
  | k + 20, h => omega
theorem signs_read (l : List UInt8) (h : l.length ≤ 60) : scE (cat (l.map sgOf)) = 0 ∧ (scL (cat (l.map sgOf))).length = l.length + 1 ∧ ∀ j, j < l.length → ((scL (cat (l.map sgOf))).getD j tk0).k = 5 ∧ ((scL (cat (l.map sgOf))).getD j tk0).t = sgOf (l.getD j 0) := by
  have hall : ∀ x ∈ l.map sgOf, isSg x = true := fun x hx => by
    obtain ⟨c, _, rfl⟩ := List.mem_map.1 hx
    exact sgOf_is c
  have hlen := cat_len (l.map sgOf) (fun x hx => (sign_len (hall x hx)).2)
  rw [List.length_map] at hlen
  obtain ⟨m, m1, m2⟩ := scan_cat (cat (l.map sgOf)).length (l.map sgOf) hall
  obtain ⟨e1, _, e3⟩ := sc_ok (s := cat (l.map sgOf)) (l := m) (by omega) m1
  have hm : m.length = l.length := by have := congrArg List.length m2; simpa using this
  refine ⟨e1, by rw [e3, List.length_append, hm]; rfl, fun j hj => ?_⟩
  rw [e3]
  have hj2 : j < m.length := by omega
  have e4 : (m ++ [tEnd (cat (l.map sgOf)).length]).getD j tk0 = m[j] := by
    simp [List.getD, List.getElem?_append_left hj2, List.getElem?_eq_getElem hj2]
  have e5 : (m.map (fun x => x.put 0))[j]? = ((l.map sgOf).map tSign)[j]? := by rw [m2]
  rw [List.getElem?_map, List.getElem?_map, List.getElem?_map, List.getElem?_eq_getElem hj2, List.getElem?_eq_getElem hj] at e5
  have e6 : m[j].put 0 = tSign (sgOf l[j]) := by simpa using e5
  have e7 : l.getD j 0 = l[j] := by simp [List.getD, List.getElem?_eq_getElem hj]
  rw [e4, e7]
  exact ⟨congrArg Tk.k e6, congrArg Tk.t e6⟩
end Go.Proofs.YtajbjbnfklllkaaGreatDoor
