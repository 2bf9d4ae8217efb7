/- Texts that the others lean on. -/
import Derived.Test.YteankdaegdhfiaaGreatDoorKMP
import Derived.Test.YteankdaegdhfiaaGreatDoorKMU
namespace Go.Proofs.YteankdaegdhfiaaGreatDoor
open Go.ChangeShapes Go.WideShapes Go.ChangeAt Go.RowKit Go.Deep
theorem cS : Tryz.prog.cellsOf 9 = 1 := by kernel_rfl
theorem cI : Tryz.prog.cellsOf 3 = 1 := by kernel_rfl
theorem cJ : Tryz.prog.cellsOf 2 = 1 := by kernel_rfl
theorem cB : Tryz.prog.cellsOf 4 = 1 := by kernel_rfl
theorem cN : Tryz.prog.cellsOf 24 = 2 := by kernel_rfl
section
variable {H : Type} {enc : TypeId × Value → H} {W : World}
abbrev Rdg (enc : TypeId × Value → H) (W : World) (fuel : Nat) (t : TypeId) (cs : List Value) (x : DataW H × List MemPlace) : Prop := DataW.trod enc Tryz.prog W 0 (fun _ => true) true fuel t cs = some x
theorem l2 {α : Type} : ∀ {l : List α}, l.length = 2 → ∃ a b, l = [a, b]
 | [a, b], _ => ⟨a, b, rfl⟩
theorem l6 {α : Type} : ∀ {l : List α}, l.length = 6 → ∃ a b c d e f, l = [a, b, c, d, e, f]
 | [a, b, c, d, e, f], _ => ⟨a, b, c, d, e, f, rfl⟩
/-- A slice's elements, each out of its reading. -/
theorem sl_of {fuel : Nat} {t e : TypeId} {v : Value} {x : DataW H × List MemPlace} (c : Nat) (hc : Tryz.prog.cellsOf e = c) (hc0 : 0 < c) (ht : Tryz.prog.underlying t = some (.slice e)) (h : Rdg enc W fuel t [v] x) :
  ∃ ao len cap, v = .slice ao len cap ∧ len ≤ cap ∧ len ≤ 9223372036854775807 ∧ ∃ b off n, n < fuel ∧ (0 < len → ao = some ⟨b, off, none⟩) ∧ ∀ i, i < len → ∃ cs' x', cs'.length = c ∧ (∀ j, j < c → W.cell? ⟨b, off + (i * c + j), none⟩ = cs'[j]?) ∧ Rdg enc W n e cs' x' := by
 rcases DataW.trod_slice ht h with h0 | ⟨a, len, cap, elems, rest, n, hn, hcs, _, _, hl, hm, hlen, hel, _, _⟩
 ·
  have e0 : v = .slice none 0 0 := by simpa using h0.1
  cases fuel with
  | zero => cases h
  | succ m => exact ⟨none, 0, 0, e0, by omega, by omega, 0, 0, m, by omega, fun q => by omega, fun i q => by omega⟩
 ·
  have e0 : v = .slice (some a) len cap := by simpa using hcs
  have key : ∀ i, i < len → ∃ cs' x', W.cells? 0 (a.add (i * c)) c = some cs' ∧ Rdg enc W n e cs' x' := fun i hi => by
   have h1 := hel i hi
   rw [List.getElem?_eq_getElem (by omega), hc] at h1
   cases hq : W.cells? 0 (a.add (i * c)) c with
   | none => rw [hq] at h1; cases h1
   | some cs' => rw [hq] at h1; exact ⟨cs', _, rfl, h1⟩
  obtain ⟨b, off, spot⟩ := a
  have hsp : 0 < len → spot = none := fun hp => by
   obtain ⟨cs', x', h1, _⟩ := key 0 hp
   obtain ⟨_, hl', hcell⟩ := World.cells?_some h1
   have h2 := hcell 0 hc0
   rw [List.getElem?_eq_getElem (by omega)] at h2
   simpa [Addr.add] using World.cell?_spot h2
  refine ⟨_, len, cap, e0, hl, by unfold maxLen at hm; omega, b, off, n, by omega, fun hp => ?_, fun i hi => ?_⟩
  ·
   rw [hsp hp]
  ·
   obtain ⟨cs', x', h1, h3⟩ := key i hi
   obtain ⟨_, hl', hcell⟩ := World.cells?_some h1
   obtain rfl := hsp (by omega)
   refine ⟨cs', x', hl', fun j hj => ?_, h3⟩
   have h4 := hcell j hj
   rw [add_add, Addr.add_lit] at h4
   exact h4
theorem str_of {fuel : Nat} {v : Value} {x : DataW H × List MemPlace} (h : Rdg enc W fuel 9 [v] x) : ∃ s : Str, v = tx s ∧ Big s := by
 obtain ⟨s, z, _, b⟩ := DataW.trod_string Tryz.underlying9 h
 obtain ⟨l, q, n⟩ := tx_of s
 refine ⟨l, ?_, ?_⟩
 ·
  have : v = .string s := by simpa using z
  rw [this, ← q]
 ·
  show l.length ≤ _
  unfold maxLen at b
  omega
theorem num_of {fuel : Nat} {v : Value} {x : DataW H × List MemPlace} (h : Rdg enc W fuel 3 [v] x) : ∃ n : Int, v = .int .i64 n := by
 obtain ⟨n, z, _, _⟩ := DataW.trod_int Tryz.underlying3 h
 exact ⟨n, by simpa using z⟩
theorem i64_of {fuel : Nat} {v : Value} {x : DataW H × List MemPlace} (h : Rdg enc W fuel 2 [v] x) : ∃ n : Int, v = .int .i64 n ∧ -9223372036854775808 ≤ n ∧ n ≤ 9223372036854775807 := by
 obtain ⟨n, z, _, wf⟩ := DataW.trod_int Tryz.underlying2 h
 exact ⟨n, by simpa using z, by simpa [Lit.wf, IntKind.min, IntKind.max, IntKind.signed, IntKind.bits] using wf⟩
theorem bool_of {fuel : Nat} {v : Value} {x : DataW H × List MemPlace} (h : Rdg enc W fuel 4 [v] x) : ∃ n : Bool, v = .bool n := by
 obtain ⟨n, z, _⟩ := DataW.trod_bool Tryz.underlying4 h
 exact ⟨n, by simpa using z⟩
end
end Go.Proofs.YteankdaegdhfiaaGreatDoor
