/- A copy of bytes as an operation: in a plain region, and as a step of a region that draws its order. -/
import Derived.Test.YteajcgodfbaeiaaRef3
import Derived.Deep.RegionHeld3
namespace Go.Proofs.Yteajcgodfbaeiaa
open Go.RowKit

theorem copy_run_ty (ty : TypeId) (W : World) (ao : Option Addr) (n cap : Nat) (l : List UInt8) (hb : Bs W ao n cap l) (hn : n ≤ 1000000) :
    ∃ a' c' W', (Builtin.append_ #[22, 22] ty #[.slice none 0 0, .slice ao n cap]).run Try.prog W = .ok (.slice a' n c') W' ∧ W'.ownsRow W.heap.size 5 1 (.slice a' n c') n (cells l) ∧ Below W.heap.size W W' := by
  obtain ⟨i0, hi, hz0, hz1, hz2⟩ := info_parts info5
  have hnil := World.ownsRow_nil W W.heap.size 5 1
  cases ao with
  | none =>
    obtain ⟨rfl, rfl⟩ := hb.none
    obtain rfl : l = [] := List.eq_nil_of_length_eq_zero hb.1
    exact ⟨_, _, _, run_append_owned_none W W.heap.size 22 ty 5 i0 1 Try.underlying22 hi _ 0 [] hnil, hnil, Below.refl _ _⟩
  | some ad =>
    obtain ⟨v', W', hr, ho, hg, hv⟩ := run_append_own (P := Try.prog) W W.heap.size 22 ty 5 i0 (.int .u8 0) 1 1 Try.underlying22 hi hz0 hz1 hz2 rfl (by decide) _ 0 [] hnil ad n cap (cells l) (by rw [cells_length, hb.1]; omega) hb.at (cells_one l) (by unfold maxLen; omega) (by omega) (Nat.le_refl _)
    rw [Nat.zero_add, List.nil_append] at ho
    obtain ⟨a', c', rfl, _⟩ := Bs.of_own ho
    exact ⟨a', c', W', hr, ho, (Below.refl _ _).grown hg (Nat.le_refl _) (fun k h => by cases h)⟩

theorem wp_copy {o : Oper} {a : Act} {W : World} {K : Act → World → Prop} {Q : Exit → Act → World → Prop} (s x : Operand)
    (ho : o.op = .call { callee := .builtin .append, args := #[s, x], argTypes := #[22, 22] })
    (ao : Option Addr) (n cap : Nat) (l : List UInt8) (hs : a.eval s = .slice none 0 0) (hx : a.eval x = .slice ao n cap) (hb : Bs W ao n cap l) (hn : n ≤ 1000000)
    (h : ∀ a' c' W', W'.ownsRow W.heap.size 5 1 (.slice a' n c') n (cells l) → Bs W' a' n c' l → Below W.heap.size W W' → K (a.put o.dst (.slice a' n c')) W') : o.wp Try.prog a W K Q := by
  obtain ⟨a', c', W', hr, h1, h2⟩ := copy_run_ty o.type W ao n cap l hb hn
  obtain ⟨_, _, e, h3⟩ := Bs.of_own h1
  cases e
  unfold Oper.wp execOp
  simp only [ho, resolve, invoke, builtin, Sem.run_bind, Sem.run_pure, Result.andThen_ok, List.map_toArray, List.map_cons, List.map_nil, hs, hx, hr]
  exact h a' c' W' h1 h3 h2

theorem wpList_copy {ops : Array Oper} {rest : List Oper} {o : Oper} {a : Act} {W : World} {Q : Exit → Act → World → Prop} (hgd : o.guard = none) (s x : Operand)
    (ho : o.op = .call { callee := .builtin .append, args := #[s, x], argTypes := #[22, 22] })
    (ao : Option Addr) (n cap : Nat) (l : List UInt8) (hs : a.eval s = .slice none 0 0) (hx : a.eval x = .slice ao n cap) (hb : Bs W ao n cap l) (hn : n ≤ 1000000)
    (h : ∀ a' c' W', W'.ownsRow W.heap.size 5 1 (.slice a' n c') n (cells l) → Bs W' a' n c' l → Below W.heap.size W W' → wpList Try.prog ops Q rest (a.put o.dst (.slice a' n c')) W') : wpList Try.prog ops Q (o :: rest) a W :=
  wpList_plain hgd fun _ hK => wp_copy s x ho ao n cap l hs hx hb hn fun a' c' W' h1 h2 h3 => hK _ _ (h a' c' W' h1 h2 h3)

/-- A region that draws its order: an operation that yields its value in every world that meets S is taken first; its slot is named. -/
theorem take_at {P : Program} {ops : Array Oper} {Q : Exit → Act → World → Prop} {md : Region.Mode} {S : World → Prop} (i : Nat) (d : Option Tmp) (v : Value) {oi : Oper} {fuel : Nat} {listed : Array Bool} {a : Act} {w : World} (hi : ops[i]? = some oi) (hd : oi.dst = d)
    (hs : Region.noSelect ops = true) (hf : Region.free md ops listed i = true) (hr : (Region.ready md ops listed).contains i = true)
    (hQ : ∀ c a w, Q (.panic c) (a.put oi.dst v) w → Q (.panic c) a w) (hw : Region.wanted oi (yielded ops a.tmps) = true) (hy : ∀ w, S w → (execOp a.eval oi).run P w = .ok (.value v) w) (hS : S w)
    (h : wpAnyH P md ops Q S fuel (listed.setIfInBounds i true) (a.put d v) w) : wpAnyH P md ops Q S (fuel + 1) listed a w := by
  subst hd
  exact wpAnyH_take hi hs hf hr hQ (Or.inl ⟨hw, hy⟩) hS h

/-- Another condition on the world, which gives the first. -/
theorem other_cond {P : Program} {ops : Array Oper} {Q : Exit → Act → World → Prop} {md : Region.Mode} (S S' : World → Prop) (hS : ∀ w, S' w → S w) : ∀ (fuel : Nat) (listed : Array Bool) (a : Act) (w : World), wpAnyH P md ops Q S' fuel listed a w → wpAnyH P md ops Q S fuel listed a w
  | 0, _, _, _, h => h
  | fuel + 1, _, _, _, h => ⟨h.1, fun i hi => wpOp_mono (fun a' w' h' => ⟨hS _ h'.1, other_cond S S' hS fuel _ a' w' h'.2⟩) (h.2 i hi)⟩

theorem step_copy {ops : Array Oper} {o : Oper} {a : Act} {W : World} {K : Act → World → Prop} {Q : Exit → Act → World → Prop} {E : Prop} (s x : Operand) (d : Option Tmp)
    (ho : o.op = .call { callee := .builtin .append, args := #[s, x], argTypes := #[22, 22] }) (hd : o.dst = d)
    (ao : Option Addr) (n cap : Nat) (l : List UInt8) (hw : Region.wanted o (yielded ops a.tmps) = true) (hs : a.eval s = .slice none 0 0) (hx : a.eval x = .slice ao n cap) (hb : Bs W ao n cap l) (hn : n ≤ 1000000)
    (h : ∀ a' c' W', W'.ownsRow W.heap.size 5 1 (.slice a' n c') n (cells l) → Bs W' a' n c' l → Below W.heap.size W W' → K (a.put d (.slice a' n c')) W') :
    if Region.wanted o (yielded ops a.tmps) = true then Oper.wp Try.prog o a W K Q else E := by
  subst hd
  rw [if_pos hw]
  exact wp_copy s x ho ao n cap l hs hx hb hn h

theorem rput_bs (base : Nat) (v : Value) (n x : Nat) (bytes : Int) (l : List UInt8) (w : World) (ho : w.ownsRow base 5 1 v n (cells l)) (hB : n ≤ 1000000) (hbase : base ≤ w.heap.size) :
    Calls Try.prog 15 #[v, .int .u64 x, .int .i64 bytes] w fun e w' => ∃ ao m cap, e = .returned (.slice ao m cap) ∧ Bs w' ao m cap (l ++ low x (held bytes)) ∧ Below base w w' := by
  refine (rput_any base v n x bytes l w ho hB hbase).mono ?_
  rintro e w' ⟨v', rfl, ho', hb'⟩
  obtain ⟨a', c', rfl, h3⟩ := Bs.of_own ho'
  exact ⟨_, _, _, rfl, h3, hb'⟩
end Go.Proofs.Yteajcgodfbaeiaa
