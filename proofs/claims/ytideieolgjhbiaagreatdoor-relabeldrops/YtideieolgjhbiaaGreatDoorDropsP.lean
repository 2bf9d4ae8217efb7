/- RelabelDrops in plain words: which labels stay. -/
import Derived.Test.YtideieolgjhbiaaGreatDoorRPlain
import Derived.Test.YtideieolgjhbiaaGreatDoorGLaws
namespace Go.Proofs.YtideieolgjhbiaaGreatDoor

def dS (x : UInt8) : UInt8 := UInt8.ofNat (97 + x.toNat % 26)
theorem dS_nat (x : UInt8) : (dS x).toNat = 97 + x.toNat % 26 := by
  unfold dS
  rw [UInt8.toNat_ofNat']
  omega
def dR (x : UInt8) : Rl := ⟨4, ⟨[], 0, [dS x, 42]⟩, [], []⟩
def goneB (ns : List UInt8) (k : Nat) : Bool := ns.any fun x => decide (x.toNat % 26 = k)
def surv (ns : List UInt8) (p : Pr) : Bool := decide (p.1 = nm) || decide ((p.1.headD 0).toNat < 97) || decide (122 < (p.1.headD 0).toNat) || !goneB ns ((p.1.headD 0).toNat - 97)
theorem goneB_snoc (ns : List UInt8) (x : UInt8) (k : Nat) : goneB (ns ++ [x]) k = (goneB ns k || decide (x.toNat % 26 = k)) := by simp [goneB]
theorem dR_rule (x : UInt8) : fRule (dR x) = true := by
  have h : fText [dS x, 42] = true := by
    unfold fText
    have hx := dS_nat x
    have h1 : ¬ (10 : UInt8) = dS x := fun e => by rw [← e] at hx; simp at hx; omega
    have h2 : ([dS x, 42] : Str).contains 10 = false := by
      rw [Bool.eq_false_iff]
      intro h
      have := List.contains_iff_mem.1 h
      rcases List.mem_cons.1 this with e | e
      · exact h1 e
      · rw [List.mem_singleton] at e; exact absurd e (by decide)
    rw [h2]
    rfl
  show ((([] : Str) == []) && decide ((0 : Int) = 0) && fText [dS x, 42] && bare (dR x)) = true
  rw [h]
  rfl
theorem dR_ok (ns : List UInt8) : rulesOk (ns.map dR) = true := by
  unfold rulesOk
  rw [List.all_eq_true]
  intro r hr
  obtain ⟨x, _, rfl⟩ := List.mem_map.1 hr
  exact dR_rule x
theorem dR_gm (x c : UInt8) (t : Str) : gm [dS x, 42] (c :: t) = (dS x == c) := by
  have hx := dS_nat x
  have h1 : dS x ≠ 42 := fun e => by rw [e] at hx; simp at hx; omega
  have h2 : (dS x == 63) = false := by rw [beq_eq_false_iff_ne]; exact fun e => by rw [e] at hx; simp at hx; omega
  rw [gm_cons h1, h2, gm_star, star_true]
  simp
theorem drops_all (l : List Pr) (ns : List UInt8) : apAll l (ns.map dR) = (l.filter fun p => ns.all fun x => stays (dR x) p, true, 0) := by
  induction ns generalizing l with
  | nil =>
    show (l, true, (0 : Int)) = _
    have : l.filter (fun p => ([] : List UInt8).all fun x => stays (dR x) p) = l := by
      rw [List.filter_eq_self]
      intro p hp
      rfl
    rw [this]
  | cons x ns ih =>
    rw [List.map_cons, apAll]
    have h1 : ap1K l (dR x) = true := rfl
    have h2 : ap1S l (dR x) = l.filter (stays (dR x)) := rfl
    rw [if_pos h1, h2, ih, List.filter_filter]
    congr 1
    apply List.filter_congr
    intro p hp
    rw [List.all_cons, Bool.and_comm]
theorem stays_surv {p : Pr} (hn : fName p.1 = true) (ns : List UInt8) : (ns.all fun x => stays (dR x) p) = surv ns p := by
  obtain ⟨c, t, hp⟩ : ∃ c t, p.1 = c :: t := by
    cases hx : p.1 with
    | nil => exact absurd hx (name_ne hn)
    | cons c t => exact ⟨c, t, rfl⟩
  have hs : ∀ x, stays (dR x) p = (decide (p.1 = nm) || !(dS x == c)) := fun x => by
    unfold stays dR
    show (_ || !gm [dS x, 42] p.1) = _
    rw [hp, dR_gm]
  have hf : (ns.all fun x => stays (dR x) p) = ns.all fun x => (decide (p.1 = nm) || !(dS x == c)) := by
    congr 1
    funext x
    exact hs x
  rw [hf]
  unfold surv
  rw [hp]
  simp only [List.headD_cons]
  by_cases h0 : c :: t = nm
  · simp [h0]
  · rw [decide_eq_false h0]
    simp only [Bool.false_or]
    rw [Bool.eq_iff_iff, List.all_eq_true]
    simp only [Bool.not_eq_true', beq_eq_false_iff_ne, Bool.or_eq_true]
    constructor
    · intro h
      by_cases h1 : c.toNat < 97
      · exact Or.inl (Or.inl (decide_eq_true h1))
      · by_cases h2 : 122 < c.toNat
        · exact Or.inl (Or.inr (decide_eq_true h2))
        · refine Or.inr ?_
          rw [Bool.eq_false_iff]
          intro hg
          obtain ⟨x, hx, e⟩ := List.any_eq_true.1 hg
          have e' := of_decide_eq_true e
          refine h x hx (UInt8.toNat_inj.1 ?_)
          rw [dS_nat]
          omega
    · intro h x hx e
      have hd := dS_nat x
      rw [e] at hd
      rcases h with (h | h) | h
      · have := of_decide_eq_true h; omega
      · have := of_decide_eq_true h; omega
      · rw [Bool.eq_false_iff] at h
        exact h (List.any_eq_true.2 ⟨x, hx, decide_eq_true (by omega)⟩)
theorem drops_ap {l : List Pr} (h : fIs l = true) (ns : List UInt8) : fApply l (ns.map dR) = (l.filter (surv ns), true, 0) := by
  unfold fApply
  rw [dR_ok, if_pos rfl, if_pos h, drops_all]
  congr 1
  apply List.filter_congr
  intro p hp
  exact stays_surv (((is_iff l).1 h).2.1 p hp).1 ns
theorem drops_get {l : List Pr} (h : fIs l = true) (ns : List UInt8) {j : Nat} (hj : j < l.length) : (fGet (l.filter (surv ns)) (l.getD j ([], [])).1 != []) = surv ns (l.getD j ([], [])) := by
  have hm : l.getD j ([], []) ∈ l := by rw [getD_at hj]; exact List.getElem_mem hj
  obtain ⟨_, h2, h3⟩ := (is_iff l).1 h
  rw [get_filter (rises_nodup h3) (surv ns) hm]
  cases hs : surv ns (l.getD j ([], [])) with
  | true => rw [if_pos rfl, bne_iff_ne]; exact val_ne (h2 _ hm).2
  | false => rw [if_neg (by simp)]; rfl
end Go.Proofs.YtideieolgjhbiaaGreatDoor
