/- FixReads: the walk. -/
import Derived.Test.YtibdlcegmepbcaaDoorRefParse
import Derived.Test.YtibdlcegmepbcaaDoorPrintRead
import Derived.Test.YtibdlcegmepbcaaDoorKnown
namespace Go.Proofs.YtibdlcegmepbcaaDoor
open Go.RowKit

set_option maxHeartbeats 2000000 in
theorem reads_a (l T : List UInt8) (o p : Bool) (n q : Int) (hl : l.length ≤ 60) (w : World) (ht : Tab Tryd.prog w)
    (hp1 : ∀ W, Calls Tryd.prog 30 #[.string ⟨l.toArray⟩] W fun e w' => e = .returned (.tuple #[.agg #[.bool p, .int .i64 q], .int .i64 0]) ∧ Below W.heap.size W w')
    (hp2 : ∀ W, Calls Tryd.prog 31 #[.string ⟨l.toArray⟩] W fun e w' => e = .returned (.tuple #[.agg #[.bool p, .int .i64 q], .bool true]) ∧ Below W.heap.size W w')
    (hpr : ∀ W, Tab Tryd.prog W → Calls Tryd.prog 26 #[.agg #[.bool o, .int .i64 n]] W fun e w' => e = .returned (.string ⟨T.toArray⟩) ∧ Below W.heap.size W w')
    (hp4 : ∀ W, Calls Tryd.prog 30 #[.string ⟨T.toArray⟩] W fun e w' => e = .returned (.tuple #[.agg #[.bool o, .int .i64 n], .int .i64 0]) ∧ Below W.heap.size W w') :
    Calls Tryd.prog 5 #[.string ⟨l.toArray⟩, .agg #[.bool o, .int .i64 n]] w fun e w' => e = .returned (.bool true) ∧ Below w.heap.size w w' := by
  have hx0 := Box.new w o n
  have hb0 : Below w.heap.size w (w.alloc (.cells #[.bool o, .int .i64 n] 23)) := bal (Below.refl _ _) _
  have hlen : ¬ (60 : Int) < (l.length : Int) := by omega
  go_enter Tryd.func5, Tryd.ntmps5
  go_wp2_with fail
  generalize w.alloc (.cells #[.bool o, .int .i64 n] 23) = w0 at *
  refine (known_any _ (ht.later hb0)).mono ?_
  rintro e w1 ⟨rfl, hb1⟩
  go_wp2_with fail
  refine (hp1 _).mono ?_
  rintro e w2 ⟨rfl, hb2⟩
  have hy2 := Box.new w2 p q
  have A2 := bal (Below.refl _ w2) (.cells #[.bool p, .int .i64 q] 23)
  have hx2 := ((hx0.later hb1).later hb2).later A2
  have hb3 := Below.chain (Below.chain (Below.chain hb0 hb1) hb2) A2
  go_wp2_with fail
  generalize w2.alloc (.cells #[.bool p, .int .i64 q] 23) = w3 at *
  refine (hp2 _).mono ?_
  rintro e w4 ⟨rfl, hb4⟩
  have hz4 := Box.new w4 p q
  have A4 := bal (Below.refl _ w4) (.cells #[.bool p, .int .i64 q] 23)
  have hx4 := (hx2.later hb4).later A4
  have hy4 := (hy2.later hb4).later A4
  have hb5 := Below.chain (Below.chain hb3 hb4) A4
  obtain ⟨x0, x1, _, _⟩ := id hx4
  go_wp2_with fail
  generalize w4.alloc (.cells #[.bool p, .int .i64 q] 23) = w5 at *
  refine (hpr _ (ht.later hb5)).mono ?_
  rintro e w6 ⟨rfl, hb6⟩
  go_wp2_with fail
  refine (hp4 _).mono ?_
  rintro e w7 ⟨rfl, hb7⟩
  have hb67 := Below.chain hb6 hb7
  have hu7 := Box.new w7 o n
  have A7 := bal (Below.refl _ w7) (.cells #[.bool o, .int .i64 n] 23)
  have hx7 := (hx4.later hb67).later A7
  have hy7 := (hy4.later hb67).later A7
  have hz7 := (hz4.later hb67).later A7
  have hb8 := Below.chain (Below.chain hb5 hb67) A7
  clear x0 x1 hx4 hy4 hz4 hb5 hb6 hb7 hb67 hb4 hb3 hx2 hy2 hb2 hb1 hx0 A2 A4 hp1 hp2 hp4 hpr
  obtain ⟨x0, x1, _, _⟩ := id hx7
  obtain ⟨y0, y1, _, _⟩ := id hy7
  obtain ⟨z0, z1, _, _⟩ := id hz7
  obtain ⟨u0, u1, _, _⟩ := id hu7
  clear hy7 hz7
  go_wp2
  go_ret
  exact ⟨by simp, hb8⟩
set_option maxHeartbeats 2000000 in
theorem reads_b (l T : List UInt8) (o p : Bool) (n q : Int) (hl : l.length ≤ 60) (w : World) (ht : Tab Tryd.prog w)
    (hp1 : ∀ W, Calls Tryd.prog 30 #[.string ⟨l.toArray⟩] W fun e w' => e = .returned (.tuple #[.agg #[.bool p, .int .i64 q], .int .i64 20]) ∧ Below W.heap.size W w')
    (hp2 : ∀ W, Calls Tryd.prog 31 #[.string ⟨l.toArray⟩] W fun e w' => e = .returned (.tuple #[.agg #[.bool p, .int .i64 q], .bool false]) ∧ Below W.heap.size W w')
    (hpr : ∀ W, Tab Tryd.prog W → Calls Tryd.prog 26 #[.agg #[.bool o, .int .i64 n]] W fun e w' => e = .returned (.string ⟨T.toArray⟩) ∧ Below W.heap.size W w')
    (hp4 : ∀ W, Calls Tryd.prog 30 #[.string ⟨T.toArray⟩] W fun e w' => e = .returned (.tuple #[.agg #[.bool o, .int .i64 n], .int .i64 0]) ∧ Below W.heap.size W w') :
    Calls Tryd.prog 5 #[.string ⟨l.toArray⟩, .agg #[.bool o, .int .i64 n]] w fun e w' => e = .returned (.bool true) ∧ Below w.heap.size w w' := by
  have hx0 := Box.new w o n
  have hb0 : Below w.heap.size w (w.alloc (.cells #[.bool o, .int .i64 n] 23)) := bal (Below.refl _ _) _
  have hlen : ¬ (60 : Int) < (l.length : Int) := by omega
  go_enter Tryd.func5, Tryd.ntmps5
  go_wp2_with fail
  generalize w.alloc (.cells #[.bool o, .int .i64 n] 23) = w0 at *
  refine (known_any _ (ht.later hb0)).mono ?_
  rintro e w1 ⟨rfl, hb1⟩
  go_wp2_with fail
  refine (hp1 _).mono ?_
  rintro e w2 ⟨rfl, hb2⟩
  have hy2 := Box.new w2 p q
  have A2 := bal (Below.refl _ w2) (.cells #[.bool p, .int .i64 q] 23)
  have hx2 := ((hx0.later hb1).later hb2).later A2
  have hb3 := Below.chain (Below.chain (Below.chain hb0 hb1) hb2) A2
  go_wp2_with fail
  generalize w2.alloc (.cells #[.bool p, .int .i64 q] 23) = w3 at *
  refine (hp2 _).mono ?_
  rintro e w4 ⟨rfl, hb4⟩
  have hz4 := Box.new w4 p q
  have A4 := bal (Below.refl _ w4) (.cells #[.bool p, .int .i64 q] 23)
  have hx4 := (hx2.later hb4).later A4
  have hy4 := (hy2.later hb4).later A4
  have hb5 := Below.chain (Below.chain hb3 hb4) A4
  obtain ⟨x0, x1, _, _⟩ := id hx4
  go_wp2_with fail
  generalize w4.alloc (.cells #[.bool p, .int .i64 q] 23) = w5 at *
  refine (hpr _ (ht.later hb5)).mono ?_
  rintro e w6 ⟨rfl, hb6⟩
  go_wp2_with fail
  refine (hp4 _).mono ?_
  rintro e w7 ⟨rfl, hb7⟩
  have hb67 := Below.chain hb6 hb7
  have hu7 := Box.new w7 o n
  have A7 := bal (Below.refl _ w7) (.cells #[.bool o, .int .i64 n] 23)
  have hx7 := (hx4.later hb67).later A7
  have hy7 := (hy4.later hb67).later A7
  have hz7 := (hz4.later hb67).later A7
  have hb8 := Below.chain (Below.chain hb5 hb67) A7
  clear x0 x1 hx4 hy4 hz4 hb5 hb6 hb7 hb67 hb4 hb3 hx2 hy2 hb2 hb1 hx0 A2 A4 hp1 hp2 hp4 hpr
  obtain ⟨x0, x1, _, _⟩ := id hx7
  obtain ⟨y0, y1, _, _⟩ := id hy7
  obtain ⟨z0, z1, _, _⟩ := id hz7
  obtain ⟨u0, u1, _, _⟩ := id hu7
  clear hy7 hz7
  go_wp2
  go_ret
  exact ⟨by simp, hb8⟩
set_option maxHeartbeats 2000000 in
theorem reads_c (l T : List UInt8) (o p : Bool) (n q : Int) (hl : l.length ≤ 60) (hI : fIs o n = false) (hne : ¬ (o = true ∧ n = 0)) (w : World) (ht : Tab Tryd.prog w)
    (hp1 : ∀ W, Calls Tryd.prog 30 #[.string ⟨l.toArray⟩] W fun e w' => e = .returned (.tuple #[.agg #[.bool p, .int .i64 q], .int .i64 0]) ∧ Below W.heap.size W w')
    (hp2 : ∀ W, Calls Tryd.prog 31 #[.string ⟨l.toArray⟩] W fun e w' => e = .returned (.tuple #[.agg #[.bool p, .int .i64 q], .bool true]) ∧ Below W.heap.size W w')
    (hpr : ∀ W, Tab Tryd.prog W → Calls Tryd.prog 26 #[.agg #[.bool o, .int .i64 n]] W fun e w' => e = .returned (.string ⟨T.toArray⟩) ∧ Below W.heap.size W w')
    (hp4 : ∀ W, Calls Tryd.prog 30 #[.string ⟨T.toArray⟩] W fun e w' => e = .returned (.tuple #[.agg #[.bool true, .int .i64 0], .int .i64 0]) ∧ Below W.heap.size W w') :
    Calls Tryd.prog 5 #[.string ⟨l.toArray⟩, .agg #[.bool o, .int .i64 n]] w fun e w' => e = .returned (.bool true) ∧ Below w.heap.size w w' := by
  have hx0 := Box.new w o n
  have hb0 : Below w.heap.size w (w.alloc (.cells #[.bool o, .int .i64 n] 23)) := bal (Below.refl _ _) _
  have hlen : ¬ (60 : Int) < (l.length : Int) := by omega
  go_enter Tryd.func5, Tryd.ntmps5
  go_wp2_with fail
  generalize w.alloc (.cells #[.bool o, .int .i64 n] 23) = w0 at *
  refine (known_any _ (ht.later hb0)).mono ?_
  rintro e w1 ⟨rfl, hb1⟩
  go_wp2_with fail
  refine (hp1 _).mono ?_
  rintro e w2 ⟨rfl, hb2⟩
  have hy2 := Box.new w2 p q
  have A2 := bal (Below.refl _ w2) (.cells #[.bool p, .int .i64 q] 23)
  have hx2 := ((hx0.later hb1).later hb2).later A2
  have hb3 := Below.chain (Below.chain (Below.chain hb0 hb1) hb2) A2
  go_wp2_with fail
  generalize w2.alloc (.cells #[.bool p, .int .i64 q] 23) = w3 at *
  refine (hp2 _).mono ?_
  rintro e w4 ⟨rfl, hb4⟩
  have hz4 := Box.new w4 p q
  have A4 := bal (Below.refl _ w4) (.cells #[.bool p, .int .i64 q] 23)
  have hx4 := (hx2.later hb4).later A4
  have hy4 := (hy2.later hb4).later A4
  have hb5 := Below.chain (Below.chain hb3 hb4) A4
  obtain ⟨x0, x1, _, _⟩ := id hx4
  go_wp2_with fail
  generalize w4.alloc (.cells #[.bool p, .int .i64 q] 23) = w5 at *
  refine (hpr _ (ht.later hb5)).mono ?_
  rintro e w6 ⟨rfl, hb6⟩
  go_wp2_with fail
  refine (hp4 _).mono ?_
  rintro e w7 ⟨rfl, hb7⟩
  have hb67 := Below.chain hb6 hb7
  have hu7 := Box.new w7 true 0
  have A7 := bal (Below.refl _ w7) (.cells #[.bool true, .int .i64 0] 23)
  have hx7 := (hx4.later hb67).later A7
  have hy7 := (hy4.later hb67).later A7
  have hz7 := (hz4.later hb67).later A7
  have hb8 := Below.chain (Below.chain hb5 hb67) A7
  clear x0 x1 hx4 hy4 hz4 hb5 hb6 hb7 hb67 hb4 hb3 hx2 hy2 hb2 hb1 hx0 A2 A4 hp1 hp2 hp4 hpr
  obtain ⟨x0, x1, _, _⟩ := id hx7
  obtain ⟨y0, y1, _, _⟩ := id hy7
  obtain ⟨z0, z1, _, _⟩ := id hz7
  obtain ⟨u0, u1, _, _⟩ := id hu7
  clear hy7 hz7
  cases o with
  | true =>
    have hn0 : ¬ n = 0 := fun h => hne ⟨rfl, h⟩
    have hn1 : (n == 0) = false := beq_eq_false_iff_ne.2 hn0
    have hn2 : ((0 : Int) == n) = false := beq_eq_false_iff_ne.2 (Ne.symm hn0)
    clear hne
    go_wp2_with fail
    refine (is_any _ _ _).mono ?_
    rintro e w9 ⟨rfl, hb9⟩
    rw [hI]
    obtain ⟨u0', u1', _, _⟩ := hu7.later hb9
    go_wp2
    go_ret
    exact ⟨by simp, Below.chain hb8 hb9⟩
  | false =>
    clear hne
    go_wp2_with fail
    refine (is_any _ _ _).mono ?_
    rintro e w9 ⟨rfl, hb9⟩
    rw [hI]
    obtain ⟨u0', u1', _, _⟩ := hu7.later hb9
    go_wp2
    go_ret
    exact ⟨by simp, Below.chain hb8 hb9⟩
set_option maxHeartbeats 2000000 in
theorem reads_d (l T : List UInt8) (o p : Bool) (n q : Int) (hl : l.length ≤ 60) (hI : fIs o n = false) (hne : ¬ (o = true ∧ n = 0)) (w : World) (ht : Tab Tryd.prog w)
    (hp1 : ∀ W, Calls Tryd.prog 30 #[.string ⟨l.toArray⟩] W fun e w' => e = .returned (.tuple #[.agg #[.bool p, .int .i64 q], .int .i64 20]) ∧ Below W.heap.size W w')
    (hp2 : ∀ W, Calls Tryd.prog 31 #[.string ⟨l.toArray⟩] W fun e w' => e = .returned (.tuple #[.agg #[.bool p, .int .i64 q], .bool false]) ∧ Below W.heap.size W w')
    (hpr : ∀ W, Tab Tryd.prog W → Calls Tryd.prog 26 #[.agg #[.bool o, .int .i64 n]] W fun e w' => e = .returned (.string ⟨T.toArray⟩) ∧ Below W.heap.size W w')
    (hp4 : ∀ W, Calls Tryd.prog 30 #[.string ⟨T.toArray⟩] W fun e w' => e = .returned (.tuple #[.agg #[.bool true, .int .i64 0], .int .i64 0]) ∧ Below W.heap.size W w') :
    Calls Tryd.prog 5 #[.string ⟨l.toArray⟩, .agg #[.bool o, .int .i64 n]] w fun e w' => e = .returned (.bool true) ∧ Below w.heap.size w w' := by
  have hx0 := Box.new w o n
  have hb0 : Below w.heap.size w (w.alloc (.cells #[.bool o, .int .i64 n] 23)) := bal (Below.refl _ _) _
  have hlen : ¬ (60 : Int) < (l.length : Int) := by omega
  go_enter Tryd.func5, Tryd.ntmps5
  go_wp2_with fail
  generalize w.alloc (.cells #[.bool o, .int .i64 n] 23) = w0 at *
  refine (known_any _ (ht.later hb0)).mono ?_
  rintro e w1 ⟨rfl, hb1⟩
  go_wp2_with fail
  refine (hp1 _).mono ?_
  rintro e w2 ⟨rfl, hb2⟩
  have hy2 := Box.new w2 p q
  have A2 := bal (Below.refl _ w2) (.cells #[.bool p, .int .i64 q] 23)
  have hx2 := ((hx0.later hb1).later hb2).later A2
  have hb3 := Below.chain (Below.chain (Below.chain hb0 hb1) hb2) A2
  go_wp2_with fail
  generalize w2.alloc (.cells #[.bool p, .int .i64 q] 23) = w3 at *
  refine (hp2 _).mono ?_
  rintro e w4 ⟨rfl, hb4⟩
  have hz4 := Box.new w4 p q
  have A4 := bal (Below.refl _ w4) (.cells #[.bool p, .int .i64 q] 23)
  have hx4 := (hx2.later hb4).later A4
  have hy4 := (hy2.later hb4).later A4
  have hb5 := Below.chain (Below.chain hb3 hb4) A4
  obtain ⟨x0, x1, _, _⟩ := id hx4
  go_wp2_with fail
  generalize w4.alloc (.cells #[.bool p, .int .i64 q] 23) = w5 at *
  refine (hpr _ (ht.later hb5)).mono ?_
  rintro e w6 ⟨rfl, hb6⟩
  go_wp2_with fail
  refine (hp4 _).mono ?_
  rintro e w7 ⟨rfl, hb7⟩
  have hb67 := Below.chain hb6 hb7
  have hu7 := Box.new w7 true 0
  have A7 := bal (Below.refl _ w7) (.cells #[.bool true, .int .i64 0] 23)
  have hx7 := (hx4.later hb67).later A7
  have hy7 := (hy4.later hb67).later A7
  have hz7 := (hz4.later hb67).later A7
  have hb8 := Below.chain (Below.chain hb5 hb67) A7
  clear x0 x1 hx4 hy4 hz4 hb5 hb6 hb7 hb67 hb4 hb3 hx2 hy2 hb2 hb1 hx0 A2 A4 hp1 hp2 hp4 hpr
  obtain ⟨x0, x1, _, _⟩ := id hx7
  obtain ⟨y0, y1, _, _⟩ := id hy7
  obtain ⟨z0, z1, _, _⟩ := id hz7
  obtain ⟨u0, u1, _, _⟩ := id hu7
  clear hy7 hz7
  cases o with
  | true =>
    have hn0 : ¬ n = 0 := fun h => hne ⟨rfl, h⟩
    have hn1 : (n == 0) = false := beq_eq_false_iff_ne.2 hn0
    have hn2 : ((0 : Int) == n) = false := beq_eq_false_iff_ne.2 (Ne.symm hn0)
    clear hne
    go_wp2_with fail
    refine (is_any _ _ _).mono ?_
    rintro e w9 ⟨rfl, hb9⟩
    rw [hI]
    obtain ⟨u0', u1', _, _⟩ := hu7.later hb9
    go_wp2
    go_ret
    exact ⟨by simp, Below.chain hb8 hb9⟩
  | false =>
    clear hne
    go_wp2_with fail
    refine (is_any _ _ _).mono ?_
    rintro e w9 ⟨rfl, hb9⟩
    rw [hI]
    obtain ⟨u0', u1', _, _⟩ := hu7.later hb9
    go_wp2
    go_ret
    exact ⟨by simp, Below.chain hb8 hb9⟩
theorem reads_in (l : List UInt8) (o : Bool) (n : Int) (hl : l.length ≤ 60) (hn : R64 n) (w : World) (ht : Tab Tryd.prog w) :
    Calls Tryd.prog 5 #[.string ⟨l.toArray⟩, .agg #[.bool o, .int .i64 n]] w fun e w' => e = .returned (.bool true) ∧ Below w.heap.size w w' := by
  have hp1 := fun W => parse_any l W (by omega)
  have hp2 := fun W => rparse_any l W (by omega)
  have hV : V (cnt o n) := V.cnt hn.1 hn.2
  have hp3 := fun W => parse_any (fPrint (cnt o n)) W (print_len hV)
  rw [print_read hV] at hp3
  have hpr := fun W (h : Tab Tryd.prog W) => print_any o n W hn h
  cases hI : fIs o n with
  | true =>
    have ix := is_cnt hI
    have e1 : po (some (cnt o n)) = o := ix.1
    have e2 : pn (some (cnt o n)) = n := ix.2
    rw [e1, e2] at hp3
    cases hP : fParse l with
    | none =>
      rw [hP] at hp1 hp2
      exact reads_b l _ o _ n _ hl w ht hp1 hp2 hpr hp3
    | some x =>
      rw [hP] at hp1 hp2
      exact reads_a l _ o _ n _ hl w ht hp1 hp2 hpr hp3
  | false =>
    have ix := isnt_cnt hn.1 hI
    have hne : ¬ (o = true ∧ n = 0) := by
      rintro ⟨rfl, rfl⟩
      cases hI
    rw [ix] at hp3 hpr
    cases hP : fParse l with
    | none =>
      rw [hP] at hp1 hp2
      exact reads_d l _ o _ n _ hl hI hne w ht hp1 hp2 hpr hp3
    | some x =>
      rw [hP] at hp1 hp2
      exact reads_c l _ o _ n _ hl hI hne w ht hp1 hp2 hpr hp3
theorem reads_row (s : ByteArray) (o : Bool) (n : Int) (hn : R64 n) (hs : s.size ≤ maxLen) (w : World) (ht : Tab Tryd.prog w) :
    Calls Tryd.prog 5 #[.string s, .agg #[.bool o, .int .i64 n]] w fun e w' => e = .returned (.bool true) ∧ Below w.heap.size w w' := by
  have hx0 := Box.new w o n
  have hb0 : Below w.heap.size w (w.alloc (.cells #[.bool o, .int .i64 n] 23)) := bal (Below.refl _ _) _
  obtain ⟨⟨l⟩⟩ := s
  unfold maxLen at hs
  have hsz := ba_size l
  by_cases hl : l.length ≤ 60
  · exact reads_in l o n hl hn w ht
  · have hlen : (60 : Int) < (l.length : Int) := by omega
    have hmx : l.length ≤ 9223372036854775807 := by
      have h : (⟨l.toArray⟩ : ByteArray).size ≤ 9223372036854775807 := hs
      rw [hsz] at h
      exact h
    show Calls Tryd.prog 5 #[.string ⟨l.toArray⟩, .agg #[.bool o, .int .i64 n]] w _
    clear hs
    go_enter Tryd.func5, Tryd.ntmps5
    go_wp2_with fail
    refine (known_any _ (ht.later hb0)).mono ?_
    rintro e w1 ⟨rfl, hb1⟩
    go_wp2
    go_ret
    exact ⟨rfl, Below.chain hb0 hb1⟩
end Go.Proofs.YtibdlcegmepbcaaDoor
