/- RelabelFills in plain words: what comes of a set of two labels. -/
import Derived.Test.YtideieolgjhbiaaGreatDoorRPlain
import Derived.Test.YtideieolgjhbiaaGreatDoorGLaws
namespace Go.Proofs.YtideieolgjhbiaaGreatDoor

def tUp (pre : Str) (k : Nat) : Str := pre ++ List.replicate k 36
def wUp (pre v : Str) (k : Nat) : Str := pre ++ (List.replicate k v).flatten
theorem tUp_succ (pre : Str) (k : Nat) : tUp pre (k + 1) = tUp pre k ++ [36] := by
  unfold tUp
  rw [List.replicate_succ', List.append_assoc]
theorem wUp_succ (pre v : Str) (k : Nat) : wUp pre v (k + 1) = wUp pre v k ++ v := by
  unfold wUp
  rw [List.replicate_succ', List.flatten_append, List.append_assoc]
  simp
theorem dol_up {pre : Str} (hp : ∀ c ∈ pre, c ≠ 36) (v : Str) (k : Nat) : dol (tUp pre k) v = wUp pre v k := by
  induction k with
  | zero => simp [tUp, wUp, dol_free hp]
  | succ k ih => rw [tUp_succ, wUp_succ, dol_append, ih, dol_sign]
theorem wUp_len (pre v : Str) (k : Nat) : (wUp pre v k).length = pre.length + k * v.length := by
  induction k with
  | zero => simp [wUp]
  | succ k ih => rw [wUp_succ, List.length_append, ih, Nat.succ_mul]; omega
theorem wUp_no {pre v : Str} (hp : (10 : UInt8) ∉ pre) (hv : (10 : UInt8) ∉ v) (k : Nat) : (10 : UInt8) ∉ wUp pre v k := by
  induction k with
  | zero => simpa [wUp] using hp
  | succ k ih => rw [wUp_succ, List.mem_append]; exact fun h => h.elim ih hv
theorem tUp_no {pre : Str} (hp : (10 : UInt8) ∉ pre) (k : Nat) : (10 : UInt8) ∉ tUp pre k := by
  induction k with
  | zero => simpa [tUp] using hp
  | succ k ih =>
    rw [tUp_succ, List.mem_append]
    exact fun h => h.elim ih (by decide)
theorem tUp_len (pre : Str) (k : Nat) : (tUp pre k).length = pre.length + k := by simp [tUp]
def two (v u : Str) : List Pr := [([97], v), ([98], u)]
theorem two_rises (v u : Str) : rises (two v u) := by
  unfold rises two
  rw [List.pairwise_cons]
  exact ⟨fun p hp => by rw [List.mem_singleton.1 hp]; show ([97] : Str) < [98]; decide, List.pairwise_singleton _ _⟩
theorem val_of {s : Str} (h1 : s ≠ []) (h3 : (10 : UInt8) ∉ s) : fVal s = decide (s.length ≤ 30) := by
  unfold fVal
  have e1 : decide (1 ≤ s.length) = true := decide_eq_true (by cases s with | nil => exact absurd rfl h1 | cons a b => simp)
  have e3 : s.contains 10 = false := by rw [Bool.eq_false_iff]; intro h; exact h3 (List.contains_iff_mem.1 h)
  rw [e1, e3]
  simp
theorem two_is {v u : Str} (hv : fVal v = true) : fIs (full (two v u)) = (u.isEmpty || fVal u) := by
  have hvn := val_ne hv
  have hn1 : fName [97] = true := by decide
  have hn2 : fName [98] = true := by decide
  cases u with
  | nil =>
    have e : full (two v []) = [([97], v)] := by
      unfold full two
      cases v with
      | nil => exact absurd rfl hvn
      | cons a b => rfl
    rw [e]
    show fIs _ = true
    rw [is_iff]
    refine ⟨by simp, fun p hp => ?_, by unfold rises; simp⟩
    rw [List.mem_singleton.1 hp]
    exact ⟨hn1, hv⟩
  | cons c u =>
    have e : full (two v (c :: u)) = two v (c :: u) := by
      unfold full two
      cases v with
      | nil => exact absurd rfl hvn
      | cons a b => rfl
    rw [e]
    show fIs _ = fVal (c :: u)
    rw [Bool.eq_iff_iff, is_iff]
    constructor
    · intro h
      exact (h.2.1 ([98], c :: u) (by simp [two])).2
    · intro h
      refine ⟨by simp [two], fun p hp => ?_, two_rises _ _⟩
      unfold two at hp
      rcases List.mem_cons.1 hp with rfl | hp
      · exact ⟨hn1, hv⟩
      · rw [List.mem_singleton.1 hp]; exact ⟨hn2, h⟩
theorem two_get (v u : Str) (hv : v ≠ []) : fGet (full (two v u)) [97] = v ∧ fGet (full (two v u)) [98] = u := by
  cases v with
  | nil => exact absurd rfl hv
  | cons a b =>
    cases u with
    | nil => exact ⟨rfl, rfl⟩
    | cons c u => exact ⟨rfl, rfl⟩
theorem two_latest (v u x : Str) : latest (two v u) [([98], x)] = two v x := by
  unfold latest
  have e : lastOf (two v u ++ [([98], x)]) = two v x := by
    unfold two
    simp [lastOf]
  rw [e, srt_rises (two_rises v x)]
theorem two_with {v x : Str} (hv : fVal v = true) (hx : (10 : UInt8) ∉ x) : withE (two v [120]) [([98], x)] = (if x.length ≤ 30 then 0 else 30) ∧ withL (two v [120]) [([98], x)] = (if x.length ≤ 30 then full (two v x) else []) := by
  have h0 : fIs (two v [120]) = true := by
    have h := two_is (u := [120]) hv
    have e : full (two v [120]) = two v [120] := by
      unfold full two
      cases v with
      | nil => exact absurd rfl (val_ne hv)
      | cons a b => rfl
    rw [e] at h
    rw [h]
    decide
  have h1 : (x.isEmpty || fVal x) = decide (x.length ≤ 30) := by
    cases x with
    | nil => rfl
    | cons c x => rw [val_of (by simp) hx]; rfl
  have hE : withE (two v [120]) [([98], x)] = (if x.length ≤ 30 then 0 else 30) := by
    unfold withE
    rw [if_pos h0, two_latest, two_is hv, h1]
    simp
  refine ⟨hE, ?_⟩
  unfold withL
  rw [hE, two_latest]
  by_cases h : x.length ≤ 30
  · simp [h]
  · simp [h]
def fR (t : Str) : Rl := ⟨3, ⟨[97], 4, [42]⟩, [98], t⟩
theorem fR_rule {t : Str} (h1 : t.length ≤ 30) (h2 : (10 : UInt8) ∉ t) : fRule (fR t) = true := by
  unfold fRule fR
  have e : fText t = true := by
    unfold fText
    have e3 : t.contains 10 = false := by rw [Bool.eq_false_iff]; intro h; exact h2 (List.contains_iff_mem.1 h)
    rw [decide_eq_true h1, e3]
    rfl
  show (fMat ⟨[97], 4, [42]⟩ && fName [98] && fText t) = true
  rw [e]
  decide
theorem fills_ap {v pre : Str} {k : Nat} (hv1 : v ≠ []) (hv2 : v.length ≤ 20) (hv3 : (10 : UInt8) ∉ v) (hp1 : pre.length ≤ 10) (hp2 : ∀ c ∈ pre, c ≠ 36) (hp3 : (10 : UInt8) ∉ pre) (hk : k ≤ 4) :
    fApply (two v [120]) [fR (tUp pre k)] = if (wUp pre v k).length ≤ 30 then (full (two v (wUp pre v k)), true, 0) else ([], false, 30) := by
  have hv : fVal v = true := by rw [val_of hv1 hv3]; exact decide_eq_true (by omega)
  have hr : fRule (fR (tUp pre k)) = true := fR_rule (by rw [tUp_len]; omega) (tUp_no hp3 k)
  have hl : fIs (two v [120]) = true := by
    have h := two_is (u := [120]) hv
    have e : full (two v [120]) = two v [120] := by
      unfold full two
      cases v with
      | nil => exact absurd rfl hv1
      | cons a b => rfl
    rw [e] at h
    rw [h]
    decide
  have hg : fGet (two v [120]) [97] = v := rfl
  have hh : hit (two v [120]) (fR (tUp pre k)) = true := by
    unfold hit fR
    show fOne ⟨[97], 4, [42]⟩ (fGet (two v [120]) [97]) = true
    rw [hg]
    show gm [42] v = true
    rw [gm_star]
    exact star_true v
  have hs : setP (two v [120]) (fR (tUp pre k)) = [([98], wUp pre v k)] := by
    unfold setP fR
    show [([98], dol (tUp pre k) (fGet (two v [120]) [97]))] = _
    rw [hg, dol_up hp2]
  obtain ⟨w1, w2⟩ := two_with hv (wUp_no hp3 hv3 k)
  unfold fApply rulesOk
  rw [if_pos (by simp [hr]), if_pos hl, apAll]
  have k1 : ap1K (two v [120]) (fR (tUp pre k)) = decide ((wUp pre v k).length ≤ 30) := by
    unfold ap1K
    show (if hit _ _ = true then _ else true) = _
    rw [if_pos hh, hs, w1]
    by_cases h : (wUp pre v k).length ≤ 30 <;> simp [h]
  have k2 : ap1S (two v [120]) (fR (tUp pre k)) = if (wUp pre v k).length ≤ 30 then full (two v (wUp pre v k)) else [] := by
    unfold ap1S
    show (if hit _ _ = true then _ else _) = _
    rw [if_pos hh, hs, w2]
  have k3 : ap1E (two v [120]) (fR (tUp pre k)) = if (wUp pre v k).length ≤ 30 then 0 else 30 := by
    unfold ap1E
    show (if hit _ _ = true then _ else _) = _
    rw [if_pos hh, hs, w1]
  rw [k1, k2, k3]
  by_cases h : (wUp pre v k).length ≤ 30
  · simp [h, apAll]
  · simp [h]
end Go.Proofs.YtideieolgjhbiaaGreatDoor
