/- Merging in place, in plain words: rows of pairs parted, turned, put together. -/
import Derived.Test.YtldlhpokkidmlaaGreatDoorStable
namespace Go.Proofs.YtldlhpokkidmlaaGreatDoor

/-- Elements i and j change places. -/
def sw (d : List Pr) (i j : Nat) : List Pr := (d.set i (d.getD j ([], []))).set j (d.getD i ([], []))
theorem sw_len (d : List Pr) (i j : Nat) : (sw d i j).length = d.length := by simp [sw]
theorem sw_app (A B C : List Pr) (x y : Pr) : sw (A ++ x :: (B ++ y :: C)) A.length (A.length + 1 + B.length) = A ++ y :: (B ++ x :: C) := by
  have h0 : (A ++ x :: (B ++ y :: C)).getD A.length ([], []) = x := by simp [List.getD]
  have h1 : (A ++ x :: (B ++ y :: C)).getD (A.length + 1 + B.length) ([], []) = y := by
    have e : A.length + 1 + B.length = (A ++ x :: B).length := by simp; omega
    have e2 : A ++ x :: (B ++ y :: C) = (A ++ x :: B) ++ y :: C := by simp
    rw [e2, e, List.getD]
    simp
  unfold sw
  rw [h0, h1]
  have e : A.length + 1 + B.length = (A ++ y :: B).length := by simp; omega
  have e2 : (A ++ x :: (B ++ y :: C)).set A.length y = (A ++ y :: B) ++ y :: C := by simp
  rw [e2, e]
  simp
theorem sw_comm (d : List Pr) (i j : Nat) : sw d i j = sw d j i := by
  unfold sw
  by_cases h : i = j
  · subst h; rfl
  · exact List.set_comm _ _ h
/-- No name of the one stands in the other: they may change places. -/
theorem ofN_swap {X Y : List Pr} (h : ∀ x ∈ X, ∀ y ∈ Y, x.1 ≠ y.1) (n : Str) : ofN n (X ++ Y) = ofN n (Y ++ X) := by
  unfold ofN
  rw [List.filter_append, List.filter_append]
  by_cases hx : ∃ x ∈ X, x.1 = n
  · obtain ⟨x, hx, rfl⟩ := hx
    have : Y.filter (fun p => decide (p.1 = x.1)) = [] := by
      rw [List.filter_eq_nil_iff]
      intro y hy e
      exact h x hx y hy (by simpa using (of_decide_eq_true e).symm)
    rw [this]; simp
  · have : X.filter (fun p => decide (p.1 = n)) = [] := by
      rw [List.filter_eq_nil_iff]
      intro x hx' e
      exact hx ⟨x, hx', of_decide_eq_true e⟩
    rw [this]; simp
theorem sortedN_app {X Y : List Pr} : sortedN (X ++ Y) ↔ sortedN X ∧ sortedN Y ∧ ∀ x ∈ X, ∀ y ∈ Y, ¬ y.1 < x.1 := by
  unfold sortedN
  rw [List.pairwise_append]
/-- What the merging of the row between two places makes. -/
def Merged (L R M : List Pr) : Prop := M.length = L.length + R.length ∧ sortedN M ∧ (∀ n, ofN n M = ofN n (L ++ R)) ∧ M.Perm (L ++ R)
theorem lt_of_not {a b c : Str} (h : ¬ b < a) (k : b < c) : a < c := by
  by_cases e : a < b
  · exact str_trans e k
  · rw [str_eq e h]; exact k
theorem lt_of_not' {a b c : Str} (h : a < b) (k : ¬ c < b) : a < c := by
  by_cases e : b < c
  · exact str_trans h e
  · rw [← str_eq e k]; exact h
theorem not_trans {a b c : Str} (h : ¬ b < a) (k : ¬ c < b) : ¬ c < a := fun e => h (lt_of_not k e)
/-- One ahead of a row goes to its place. -/
theorem merged_one {x : Pr} {R1 R2 : List Pr} (hs : sortedN (R1 ++ R2)) (h1 : ∀ y ∈ R1, y.1 < x.1) (h2 : ∀ y ∈ R2, ¬ y.1 < x.1) : Merged [x] (R1 ++ R2) (R1 ++ x :: R2) := by
  have hs' := sortedN_app.1 hs
  refine ⟨by simp; omega, ?_, fun n => ?_, ?_⟩
  · rw [sortedN_app]
    refine ⟨hs'.1, ?_, ?_⟩
    · unfold sortedN
      rw [List.pairwise_cons]
      exact ⟨h2, hs'.2.1⟩
    · intro a ha b hb
      rcases List.mem_cons.1 hb with rfl | hb
      · exact str_asymm (h1 a ha)
      · exact hs'.2.2 a ha b hb
  · have e : ofN n (R1 ++ [x]) = ofN n ([x] ++ R1) := ofN_swap (fun a ha b hb e => by
      rw [List.mem_singleton] at hb
      subst hb
      have := h1 a ha
      rw [e] at this
      exact str_irrefl _ this) n
    have e1 : R1 ++ x :: R2 = (R1 ++ [x]) ++ R2 := by simp
    have e2 : [x] ++ (R1 ++ R2) = ([x] ++ R1) ++ R2 := by simp
    rw [e1, e2]
    unfold ofN at *
    rw [List.filter_append, List.filter_append (l₁ := [x] ++ R1), e]
  · have : (R1 ++ x :: R2).Perm (x :: (R1 ++ R2)) := List.perm_middle
    exact this
/-- One behind a row goes to its place. -/
theorem merged_last {y : Pr} {L1 L2 : List Pr} (hs : sortedN (L1 ++ L2)) (h1 : ∀ x ∈ L1, ¬ y.1 < x.1) (h2 : ∀ x ∈ L2, y.1 < x.1) : Merged (L1 ++ L2) [y] (L1 ++ y :: L2) := by
  have hs' := sortedN_app.1 hs
  refine ⟨by simp; omega, ?_, fun n => ?_, ?_⟩
  · rw [sortedN_app]
    refine ⟨hs'.1, ?_, ?_⟩
    · unfold sortedN
      rw [List.pairwise_cons]
      exact ⟨fun b hb => str_asymm (h2 b hb), hs'.2.1⟩
    · intro a ha b hb
      rcases List.mem_cons.1 hb with rfl | hb
      · exact h1 a ha
      · exact hs'.2.2 a ha b hb
  · have e : ofN n ([y] ++ L2) = ofN n (L2 ++ [y]) := ofN_swap (fun a ha b hb e => by
      rw [List.mem_singleton] at ha
      subst ha
      have := h2 b hb
      rw [e] at this
      exact str_irrefl _ this) n
    have e1 : L1 ++ y :: L2 = L1 ++ ([y] ++ L2) := by simp
    have e2 : L1 ++ L2 ++ [y] = L1 ++ (L2 ++ [y]) := by simp
    rw [e1, e2]
    unfold ofN at *
    rw [List.filter_append, e, ← List.filter_append]
  · have : (L1 ++ y :: L2).Perm (y :: (L1 ++ L2)) := List.perm_middle
    exact this.trans (List.perm_append_comm (l₁ := [y]))
/-- Both halves merged by themselves, the one below the other. -/
theorem merged_halves {L1 L2 R1 R2 M1 M2 : List Pr} (hL : sortedN (L1 ++ L2)) (hR : sortedN (R1 ++ R2)) (hx : ∀ x ∈ L1, ∀ y ∈ R2, ¬ y.1 < x.1) (hy : ∀ y ∈ R1, ∀ x ∈ L2, y.1 < x.1) (h1 : Merged L1 R1 M1) (h2 : Merged L2 R2 M2) : Merged (L1 ++ L2) (R1 ++ R2) (M1 ++ M2) := by
  have hL' := sortedN_app.1 hL
  have hR' := sortedN_app.1 hR
  refine ⟨by simp [h1.1, h2.1]; omega, ?_, fun n => ?_, ?_⟩
  · rw [sortedN_app]
    refine ⟨h1.2.1, h2.2.1, fun a ha b hb => ?_⟩
    have ha' := (h1.2.2.2.mem_iff).1 ha
    have hb' := (h2.2.2.2.mem_iff).1 hb
    rcases List.mem_append.1 ha' with ha' | ha' <;> rcases List.mem_append.1 hb' with hb' | hb'
    · exact hL'.2.2 a ha' b hb'
    · exact hx a ha' b hb'
    · exact str_asymm (hy a ha' b hb')
    · exact hR'.2.2 a ha' b hb'
  · have e : ofN n (R1 ++ L2) = ofN n (L2 ++ R1) := ofN_swap (fun a ha b hb e => by
      have := hy a ha b hb
      rw [e] at this
      exact str_irrefl _ this) n
    have e1 := h1.2.2.1 n
    have e2 := h2.2.2.1 n
    unfold ofN at *
    simp only [List.filter_append] at *
    rw [e1, e2]
    have e3 : ∀ X : List Pr, List.filter (fun p => decide (p.1 = n)) R1 ++ (List.filter (fun p => decide (p.1 = n)) L2 ++ X) = List.filter (fun p => decide (p.1 = n)) L2 ++ (List.filter (fun p => decide (p.1 = n)) R1 ++ X) := fun X => by
      rw [← List.append_assoc, e, List.append_assoc]
    simp only [List.append_assoc]
    rw [e3]
  · refine (h1.2.2.2.append h2.2.2.2).trans ?_
    rw [List.append_assoc, List.append_assoc]
    refine List.Perm.append_left _ ?_
    rw [← List.append_assoc, ← List.append_assoc]
    exact List.Perm.append_right _ List.perm_append_comm
theorem merged_left {L : List Pr} (h : sortedN L) : Merged L [] L := ⟨by simp, h, fun n => by simp, by simp⟩
theorem merged_right {R : List Pr} (h : sortedN R) : Merged [] R R := ⟨by simp, h, fun n => by simp, by simp⟩
/-! ### Where a row parts -/
theorem sorted_le {R : List Pr} (hs : sortedN R) {p q : Nat} (hpq : p ≤ q) (hq : q < R.length) : ¬ R[q].1 < (R[p]'(by omega)).1 := by
  by_cases e : p = q
  · subst e; exact str_irrefl _
  · exact List.pairwise_iff_getElem.1 hs p q (by omega) hq (by omega)
theorem mem_take_ix {R : List Pr} {k : Nat} {y : Pr} (h : y ∈ R.take k) : ∃ p, ∃ hp : p < R.length, p < k ∧ R[p] = y := by
  obtain ⟨p, hp, e⟩ := List.mem_iff_getElem.1 h
  rw [List.length_take] at hp
  rw [List.getElem_take] at e
  exact ⟨p, by omega, by omega, e⟩
theorem mem_drop_ix {R : List Pr} {k : Nat} {y : Pr} (h : y ∈ R.drop k) : ∃ p, ∃ hp : p < R.length, k ≤ p ∧ R[p] = y := by
  obtain ⟨p, hp, e⟩ := List.mem_iff_getElem.1 h
  rw [List.length_drop] at hp
  rw [List.getElem_drop] at e
  exact ⟨k + p, by omega, by omega, e⟩
theorem take_lt {R : List Pr} (hs : sortedN R) {q : Nat} (hq : q < R.length) {z : Str} (h : R[q].1 < z) : ∀ y ∈ R.take (q + 1), y.1 < z := by
  intro y hy
  obtain ⟨p, hp, hpk, rfl⟩ := mem_take_ix hy
  exact lt_of_not (sorted_le hs (by omega) hq) h
theorem drop_ge {R : List Pr} (hs : sortedN R) {q : Nat} (hq : q < R.length) {z : Str} (h : ¬ R[q].1 < z) : ∀ y ∈ R.drop q, ¬ y.1 < z := by
  intro y hy
  obtain ⟨p, hp, hpk, rfl⟩ := mem_drop_ix hy
  exact fun e => h (lt_of_not (sorted_le hs hpk hp) e)
theorem take_ge {R : List Pr} (hs : sortedN R) {q : Nat} (hq : q < R.length) {z : Str} (h : ¬ z < R[q].1) : ∀ y ∈ R.take (q + 1), ¬ z < y.1 := by
  intro y hy
  obtain ⟨p, hp, hpk, rfl⟩ := mem_take_ix hy
  exact fun e => h (lt_of_not' e (sorted_le hs (by omega) hq))
theorem drop_lt {R : List Pr} (hs : sortedN R) {q : Nat} (hq : q < R.length) {z : Str} (h : z < R[q].1) : ∀ y ∈ R.drop q, z < y.1 := by
  intro y hy
  obtain ⟨p, hp, hpk, rfl⟩ := mem_drop_ix hy
  exact lt_of_not' h (sorted_le hs hpk hp)
theorem getD_app {P R : List Pr} {a q : Nat} (ha : P.length = a) (hq : q < R.length) : (P ++ R).getD (a + q) ([], []) = R[q] := by
  subst ha
  rw [List.getD, List.getElem?_append_right (by omega), Nat.add_sub_cancel_left, List.getElem?_eq_getElem hq]
  rfl
/-- One that goes to the right, a step at a time. -/
def slid (P : List Pr) (x : Pr) (R S : List Pr) (t : Nat) : List Pr := (P ++ R.take t) ++ x :: (R.drop t ++ S)
theorem slid_zero (P : List Pr) (x : Pr) (R S : List Pr) : slid P x R S 0 = P ++ (x :: (R ++ S)) := by simp [slid]
theorem slid_step {P : List Pr} {x : Pr} {R S : List Pr} {t : Nat} (ht : t < R.length) : sw (slid P x R S t) (P.length + t) (P.length + t + 1) = slid P x R S (t + 1) := by
  have h := sw_app (P ++ R.take t) [] (R.drop (t + 1) ++ S) x R[t]
  have e1 : (P ++ R.take t).length = P.length + t := by simp; omega
  rw [e1] at h
  have e3 : slid P x R S t = P ++ R.take t ++ x :: ([] ++ R[t] :: (R.drop (t + 1) ++ S)) := by
    unfold slid
    rw [List.drop_eq_getElem_cons ht]
    simp only [List.append_assoc, List.cons_append, List.nil_append]
  rw [e3]
  refine h.trans ?_
  unfold slid
  rw [List.take_succ_eq_append_getElem ht]
  simp only [List.append_assoc, List.cons_append, List.nil_append]
theorem slid_back {P : List Pr} {x : Pr} {R S : List Pr} {t : Nat} (ht : t < R.length) : sw (slid P x R S (t + 1)) (P.length + t + 1) (P.length + t) = slid P x R S t := by
  have h := sw_app (P ++ R.take t) [] (R.drop (t + 1) ++ S) R[t] x
  have e1 : (P ++ R.take t).length = P.length + t := by simp; omega
  rw [e1] at h
  have e3 : slid P x R S (t + 1) = P ++ R.take t ++ R[t] :: ([] ++ x :: (R.drop (t + 1) ++ S)) := by
    unfold slid
    rw [List.take_succ_eq_append_getElem ht]
    simp only [List.append_assoc, List.cons_append, List.nil_append]
  rw [e3, sw_comm]
  refine h.trans ?_
  unfold slid
  rw [List.drop_eq_getElem_cons ht]
  simp only [List.append_assoc, List.cons_append, List.nil_append]
/-- k elements of two pieces have changed places. -/
def swr (P X M Y S : List Pr) (k : Nat) : List Pr := (P ++ Y.take k) ++ (X.drop k ++ (M ++ (X.take k ++ (Y.drop k ++ S))))
theorem swr_zero (P X M Y S : List Pr) : swr P X M Y S 0 = P ++ (X ++ (M ++ (Y ++ S))) := by simp [swr]
theorem swr_full {P X M Y S : List Pr} {n : Nat} (hX : X.length = n) (hY : Y.length = n) : swr P X M Y S n = P ++ (Y ++ (M ++ (X ++ S))) := by
  unfold swr
  rw [List.take_of_length_le (by omega), List.drop_of_length_le (by omega), List.take_of_length_le (by omega), List.drop_of_length_le (by omega)]
  simp
theorem swr_step {P X M Y S : List Pr} {n k : Nat} (hX : X.length = n) (hY : Y.length = n) (hk : k < n) : sw (swr P X M Y S k) (P.length + k) (P.length + n + M.length + k) = swr P X M Y S (k + 1) := by
  have hx : k < X.length := by omega
  have hy : k < Y.length := by omega
  have h := sw_app (P ++ Y.take k) (X.drop (k + 1) ++ (M ++ X.take k)) (Y.drop (k + 1) ++ S) X[k] Y[k]
  have e1 : (P ++ Y.take k).length = P.length + k := by simp; omega
  have e2 : P.length + k + 1 + (X.drop (k + 1) ++ (M ++ X.take k)).length = P.length + n + M.length + k := by simp; omega
  rw [e1, e2] at h
  have e3 : swr P X M Y S k = P ++ Y.take k ++ X[k] :: (X.drop (k + 1) ++ (M ++ X.take k) ++ Y[k] :: (Y.drop (k + 1) ++ S)) := by
    unfold swr
    rw [List.drop_eq_getElem_cons hx, List.drop_eq_getElem_cons hy]
    simp only [List.append_assoc, List.cons_append]
  rw [e3, h]
  unfold swr
  rw [List.take_succ_eq_append_getElem hx, List.take_succ_eq_append_getElem hy]
  simp only [List.append_assoc, List.cons_append, List.nil_append]
theorem swr_len {P X M Y S : List Pr} {n k : Nat} (hX : X.length = n) (hY : Y.length = n) : (swr P X M Y S k).length = P.length + n + M.length + n + S.length := by
  unfold swr
  simp only [List.length_append, List.length_take, List.length_drop]
  omega
end Go.Proofs.YtldlhpokkidmlaaGreatDoor
