/- Texts that the others lean on. -/
import Derived.Test.YteankdaegdhfiaaGreatDoorKYFine
namespace Go.Proofs.YteankdaegdhfiaaGreatDoor
open Go.RowKit
def BT (t : Tk) : Prop := Big t.t
theorem mo_bt {x : Mt} (h : MO BT x) : Big x.name ∧ Big x.text := by
 rcases h with ⟨t, ht, _, rfl⟩ | ⟨a, b, c, ha, _, hc, _, _, _, _, rfl⟩
 ·
  exact ⟨by show nmL.length ≤ _; decide, ht⟩
 ·
  exact ⟨ha, hc⟩
theorem go_bt {b c : Bool} {ns : List Str} (h : GO BT b c ns) : ns.length ≤ 9223372036854775807 ∧ ∀ x ∈ ns, Big x := by
 rcases h with ⟨_, _, rfl⟩ | ⟨_, hf, hn⟩
 ·
  exact ⟨by simp, fun x hx => by simp at hx⟩
 ·
  refine ⟨by have := once_len hf; omega, fun x hx => ?_⟩
  obtain ⟨t, ht, _, rfl⟩ := hn x hx
  exact ht
theorem big0 : Big [] := by show 0 ≤ _; decide
theorem sm_ok : RdOK BT (fun _ e => Sm e) := {
 num := fun t _ _ => (Sm_eq _).2 ⟨big0, fun x hx => (by cases hx), fun x hx => (by cases hx), Nat.zero_le _, Nat.zero_le _, Nat.zero_le _, fun x hx => (by cases hx)⟩
 sel := fun p m r hm hl _ => (Sm_eq _).2 ⟨big0, fun x hx => mo_bt (hm x hx), fun x hx => (by cases hx), (by show m.length ≤ _; omega), Nat.zero_le _, Nat.zero_le _, fun x hx => (by cases hx)⟩
 call := fun n t a ht _ _ _ ha => (Sm_eq _).2 ⟨ht, fun x hx => (by cases hx), fun x hx => (by cases hx), Nat.zero_le _, Nat.zero_le _, (by show 1 ≤ 9223372036854775807; decide), fun x hx => (by rw [List.mem_singleton.1 hx]; exact ha)⟩
 agg := fun n t b1 b2 ns a ht _ hg ha => (Sm_eq _).2 ⟨ht, fun x hx => (by cases hx), (go_bt hg).2, Nat.zero_le _, (go_bt hg).1, (by show 1 ≤ 9223372036854775807; decide), fun x hx => (by rw [List.mem_singleton.1 hx]; exact ha)⟩
 bin := fun n m t b3 b4 ns a b ht _ _ hg ha hb => (Sm_eq _).2 ⟨ht, fun x hx => (by cases hx), (go_bt hg).2, Nat.zero_le _, (go_bt hg).1, (by show 2 ≤ 9223372036854775807; decide), fun x hx => (by
  have hx' : x = a ∨ x = b := by simpa [eBin] using hx
  rcases hx' with rfl | rfl
  ·
   exact ha
  ·
   exact hb)⟩
 neg := fun n t a ht ha => (Sm_eq _).2 ⟨big0, fun x hx => (by cases hx), fun x hx => (by cases hx), Nat.zero_le _, Nat.zero_le _, (by show 1 ≤ 9223372036854775807; decide), fun x hx => (by rw [List.mem_singleton.1 hx]; exact ha)⟩ }
theorem sm_ex0 : Sm ex0 := (Sm_eq _).2 ⟨big0, fun x hx => (by cases hx), fun x hx => (by cases hx), Nat.zero_le _, Nat.zero_le _, Nat.zero_le _, fun x hx => (by cases hx)⟩
theorem rdX_sm {l : List Tk} (h : ∀ t ∈ l, Big t.t) : Sm (rdX l) := by
 have k := rd_all (T := BT) (E := fun _ => True) (fun _ _ => trivial) trivial sm_ok (l := l) h
 unfold rdX
 cases hr : rdP l with
 | inl er => exact sm_ex0
 | inr e =>
  obtain ⟨_, q, _⟩ := k.2 e hr
  exact q
end Go.Proofs.YteankdaegdhfiaaGreatDoor
