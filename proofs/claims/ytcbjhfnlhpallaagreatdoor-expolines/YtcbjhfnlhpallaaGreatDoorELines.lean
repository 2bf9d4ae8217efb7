/- ExpoLines: bodies one behind the other are read one behind the other, where no kind is told; bad lines keep their numbers. -/
import Derived.Test.YtcbjhfnlhpallaaGreatDoorEInts
import Derived.Test.YtcbjhfnlhpallaaGreatDoorECmp
import Derived.Test.YtcbjhfnlhpallaaGreatDoorEOpen
namespace Go.Proofs.YtcbjhfnlhpallaaGreatDoor
open Go.RowKit

/-! ### Plain -/
def stL (l : List Str) (j : Nat) : St := runL st0 1 (l.take j)
theorem stL_succ {l : List Str} {j : Nat} (h : j < l.length) : stL l (j + 1) = stepL (stL l j) (j + 1) (l.getD j []) := run_take h
theorem lineS_kind (s : Str) : (lineS s).kind = 0 := by
  unfold lineS
  split
  · unfold wS
    split <;> rfl
  · rfl
theorem setK_zero (s : Str) : setK (lineS s) 0 = lineS s := by
  have := lineS_kind s
  unfold setK
  rw [← this]
theorem step_k {st : St} {i : Nat} {s : Str} (h : s.head? ≠ some 35) : (stepL st i s).k = st.k := by
  unfold stepL
  split
  · rfl
  · split
    · rfl
    · rfl
theorem ended_len' : ∀ (l : List Str) (b : Nat), (∀ a ∈ l, a.length ≤ b) → (ended l).length ≤ l.length * (b + 1)
  | [], b, _ => by simp [ended]
  | a :: l, b, h => by
    rw [ended_cons, List.length_append, List.length_cons, List.length_cons, Nat.add_mul]
    have h1 := h a (by simp)
    have h2 := ended_len' l b (fun x hx => h x (by simp [hx]))
    omega
def okL (l : List Str) (j : Nat) : Prop := ∀ i, i < j → (l.getD i []).length ≤ 150 ∧ 10 ∉ l.getD i [] ∧ (l.getD i []).head? ≠ some 35
theorem stL_k {l : List Str} : ∀ j, j ≤ l.length → okL l j → (stL l j).k = fun _ => 0
  | 0, _, _ => rfl
  | j + 1, h, hk => by
    rw [stL_succ (by omega), step_k (hk j (by omega)).2.2]
    exact stL_k j (by omega) (fun i hi => hk i (by omega))
theorem bL_succ {l : List Str} {j : Nat} (h : j < l.length) : ended (l.take (j + 1)) = ended (l.take j) ++ (l.getD j [] ++ [10]) := by
  rw [List.take_succ_eq_append_getElem h, ended_append, ended_one]
  simp [List.getD, List.getElem?_eq_getElem h]
theorem bL_len {l : List Str} {j : Nat} (h : okL l j) : (ended (l.take j)).length ≤ j * 151 := by
  refine Nat.le_trans (ended_len' _ 150 ?_) (Nat.mul_le_mul_right _ (by simp; omega))
  intro a ha
  obtain ⟨i, hi, rfl⟩ := List.mem_iff_getElem.1 ha
  have hi2 : i < j ∧ i < l.length := by simp at hi; omega
  have := (h i hi2.1).1
  rw [List.getElem_take]
  simpa [List.getD, List.getElem?_eq_getElem hi2.2] using this
theorem bL_body {l : List Str} (h : l.length ≤ 12) (hk : okL l l.length) : bodyS (ended (l.take l.length)) = stL l l.length := by
  have hl := bL_len hk
  unfold stL
  rw [List.take_length] at *
  refine body_ended (fun a ha => ?_) (by omega)
  obtain ⟨i, hi, rfl⟩ := List.mem_iff_getElem.1 ha
  have := (hk i hi).2.1
  simpa [List.getD, List.getElem?_eq_getElem hi] using this
def fst1 (st : St) : List Int := st.bad.map (·.1)
theorem st_empty {l : List Str} {j : Nat} (h : j < l.length) (he : l.getD j [] = []) : stL l (j + 1) = stL l j := by
  rw [stL_succ h, he, stepL_nil]
theorem st_bad {l : List Str} {j : Nat} (h : j < l.length) (h0 : l.getD j [] ≠ []) (h1 : (l.getD j []).head? ≠ some 35) (h2 : lineE (l.getD j []) ≠ 0) : (stL l (j + 1)).out = (stL l j).out ∧ fst1 (stL l (j + 1)) = fst1 (stL l j) ++ [(j : Int) + 1] := by
  rw [stL_succ h, step_bad h0 h1 h2]
  exact ⟨rfl, by simp [fst1]⟩
theorem st_good {l : List Str} {j : Nat} (h : j < l.length) (h0 : l.getD j [] ≠ []) (h1 : (l.getD j []).head? ≠ some 35) (h2 : lineE (l.getD j []) = 0) (hk : (stL l j).k = fun _ => 0) : (stL l (j + 1)).out = (stL l j).out ++ [lineS (l.getD j [])] ∧ fst1 (stL l (j + 1)) = fst1 (stL l j) := by
  rw [stL_succ h, step_good h0 h1 h2, hk]
  exact ⟨by rw [setK_zero], rfl⟩
theorem thin_step {st : St} {i : Nat} {s : Str} (h : Thin st.out) : Thin (stepL st i s).out := by
  unfold stepL
  split
  · exact h
  · split
    · cases fNote s <;> exact h
    · split
      · intro x hx
        rcases List.mem_append.1 hx with hx | hx
        · exact h x hx
        · simp at hx
          subst hx
          exact (lineS_fit s).1
      · exact h
theorem thin_run : ∀ (l : List Str) (st : St) (i : Nat), Thin st.out → Thin (runL st i l).out
  | [], _, _, h => h
  | _ :: l, _, _, h => thin_run l _ _ (thin_step h)
theorem thin_body (s : Str) : Thin (bodyS s).out := by
  unfold bodyS
  split
  · exact fun x hx => by cases hx
  · exact thin_run _ _ _ (fun x hx => by cases hx)
theorem len_run : ∀ (l : List Str) (st : St) (i : Nat), (runL st i l).out.length ≤ st.out.length + l.length ∧ (runL st i l).bad.length ≤ st.bad.length + l.length
  | [], st, i => by simp [runL]
  | s :: l, st, i => by
    have h := len_run l (stepL st i s) (i + 1)
    have h2 : (stepL st i s).out.length ≤ st.out.length + 1 ∧ (stepL st i s).bad.length ≤ st.bad.length + 1 := by
      unfold stepL
      split
      · omega
      · split
        · cases fNote s <;> simp [noted]
        · split <;> simp
    rw [runL]
    simp
    omega
theorem len_stL (l : List Str) (j : Nat) : (stL l j).out.length ≤ j ∧ (fst1 (stL l j)).length ≤ j := by
  have := len_run (l.take j) st0 1
  unfold stL fst1
  simp [st0] at *
  omega

/-! ### Samples and numbers beside one another -/
structure Wd (w : World) (base : Nat) (v u : Value) (lx : List (Value × Scr)) (bs : List Int) : Prop where
  ox : OwnX w v lx
  vb : ∀ b, v.ownBlock = some b → base ≤ b ∧ u.ownBlock ≠ some b
  oi : OwnI w base u bs
  pl : ∀ p ∈ lx, ∀ b, p.1.ownBlock = some b → b < w.heap.size ∧ u.ownBlock ≠ some b
theorem Wd.later {w w' : World} {base : Nat} {v u : Value} {lx : List (Value × Scr)} {bs : List Int} (h : Wd w base v u lx bs) (hb : Below w.heap.size w w') : Wd w' base v u lx bs :=
  ⟨h.ox.later hb, h.vb, h.oi.later hb, fun p hp b e => ⟨Nat.lt_of_lt_of_le (h.pl p hp b e).1 hb.size, (h.pl p hp b e).2⟩⟩
theorem Wd.bad {w w2 : World} {base : Nat} {v u u' : Value} {lx : List (Value × Scr)} {bs : List Int} {x : Int} (h : Wd w base v u lx bs) (ho : w2.ownsRow base 3 1 u' (bs.length + 1) (bs.map iv ++ [iv x])) (hg : w.grownBy w2 u.ownBlock) (hl : u'.ownBlock = u.ownBlock ∨ u'.ownBlock = some w.heap.size) : Wd w2 base v u' lx (bs ++ [x]) := by
  have hu : ∀ b, u'.ownBlock = some b → u.ownBlock = some b ∨ b = w.heap.size := fun b e => by
    rcases hl with h1 | h1
    · exact Or.inl (h1 ▸ e)
    · rw [h1] at e; injection e with e; exact Or.inr e.symm
  refine ⟨h.ox.kept hg (fun b e e2 => (h.vb b e).2 e2.symm) (fun p hp b e e2 => (h.pl p hp b e).2 e2.symm), fun b e => ⟨(h.vb b e).1, fun e2 => ?_⟩, OwnI.snoc ho, fun p hp b e => ⟨Nat.lt_of_lt_of_le (h.pl p hp b e).1 hg.size, fun e2 => ?_⟩⟩
  · rcases hu b e2 with h1 | h1
    · exact (h.vb b e).2 h1
    · have := (h.ox.row.lt b e).2; omega
  · rcases hu b e2 with h1 | h1
    · exact (h.pl p hp b e).2 h1
    · have := (h.pl p hp b e).1; omega
theorem Wd.good {w w2 : World} {base : Nat} {v v' u lab : Value} {lx : List (Value × Scr)} {bs : List Int} {x : Scr} (h : Wd w base v u lx bs) (hbase : base ≤ w.heap.size) (ho : w2.ownsRow 0 34 6 v' (lx.length + 1) (cellsX lx ++ six (lab, x))) (hg : w.grownBy w2 v.ownBlock) (hl : v'.ownBlock = v.ownBlock ∨ v'.ownBlock = some w.heap.size)
    (hp : Pl w lab x.ls) (hlb : ∀ b, lab.ownBlock = some b → b < w.heap.size ∧ v.ownBlock ≠ some b ∧ u.ownBlock ≠ some b) : Wd w2 base v' u (lx ++ [(lab, x)]) bs := by
  have hv : ∀ b, v'.ownBlock = some b → v.ownBlock = some b ∨ b = w.heap.size := fun b e => by
    rcases hl with h1 | h1
    · exact Or.inl (h1 ▸ e)
    · rw [h1] at e; injection e with e; exact Or.inr e.symm
  have hall : ∀ q ∈ lx ++ [(lab, x)], Pl w q.1 q.2.ls ∧ ∀ b, q.1.ownBlock = some b → b < w.heap.size ∧ v.ownBlock ≠ some b ∧ u.ownBlock ≠ some b := by
    intro q hq
    rcases List.mem_append.1 hq with hq | hq
    · exact ⟨h.ox.lab q hq, fun b e => ⟨(h.pl q hq b e).1, h.ox.apart q hq b e, (h.pl q hq b e).2⟩⟩
    · simp at hq
      subst hq
      exact ⟨hp, hlb⟩
  refine ⟨⟨?_, fun q hq => (hall q hq).1.kept hg (fun b e e2 => ((hall q hq).2 b e).2.1 e2.symm), fun q hq b e e2 => ?_⟩, fun b e => ?_, h.oi.kept hg (fun b e e2 => ?_), fun q hq b e => ⟨Nat.lt_of_lt_of_le ((hall q hq).2 b e).1 hg.size, ((hall q hq).2 b e).2.2⟩⟩
  · rw [cellsX_append, List.length_append]
    simpa [cellsX] using ho
  · rcases hv b e2 with h1 | h1
    · exact ((hall q hq).2 b e).2.1 h1
    · have := ((hall q hq).2 b e).1; omega
  · rcases hv b e with h1 | h1
    · exact h.vb b h1
    · subst h1
      exact ⟨hbase, fun e2 => by have := (World.ownsRow.lt h.oi _ e2).2; omega⟩
  · exact (h.vb b e2.symm).2 e
set_option maxRecDepth 40000 in
set_option maxHeartbeats 16000000 in
theorem lines_any (xa : Option Addr) (len cap : Nat) (l : List Str) (w : World) (hn : len ≤ 9223372036854775807) (hs : Ss w xa len l) (he : Ev w) : Calls Tryz.prog 5 #[.slice xa len cap] w fun e w' => e = .returned (.bool true) ∧ Below w.heap.size w w' := by
  have hk := known_any w he
  obtain ⟨hlen, hcell⟩ := hs
  have HL : Hid (l.length = len) := hlen
  by_cases h12 : (12 : Int) < len
  · clear hlen
    go_enter Tryz.func5, Tryz.ntmps5
    go_wp2_with fail
    refine hk.mono ?_
    rintro e w1 ⟨rfl, hb1⟩
    go_wp2
    go_ret
    exact ⟨rfl, hb1⟩
  · obtain ⟨i0, hi, hz0, hz1, hz2⟩ := info_parts3
    obtain ⟨i9, hi9, hy0, hy1, hy2⟩ := info_parts34
    clear hlen
    go_enter Tryz.func5, Tryz.ntmps5
    go_wp2_with fail
    refine hk.mono ?_
    rintro e w1 ⟨rfl, hb1⟩
    go_wp2_with fail
    go_loopw [3, 4, 5, 6] (fun bd vv uu i wr => ∃ (j : Nat) (v u : Value) (lx : List (Value × Scr)), j ≤ len ∧ bd = tx (ended (l.take j)) ∧ v = vv ∧ u = uu ∧ i = .int .i64 j ∧ Wd wr w1.heap.size v u lx (fst1 (stL l j)) ∧ Hid (lx.map (·.2) = (stL l j).out) ∧ Hid (okL l j) ∧ Below w1.heap.size w1 wr) (fun _ _ _ i _ => len - (intOf i).toNat)
    case atStart => exact ⟨0, _, _, [], by omega, rfl, rfl, rfl, rfl, ⟨⟨World.ownsRow_nil _ _ _ _, by simp, by simp⟩, by simp [Value.ownBlock], OwnI.none _ _, by simp⟩, rfl, fun i hi => by omega, Below.refl _ _⟩
    case round =>
      obtain ⟨j, v, u, lx, hj, rfl, rfl, rfl, rfl, hw, HX, HK, hb⟩ := hrel
      by_cases hlt : j < len
      · obtain ⟨b, off, rfl, hc⟩ := hcell (by omega)
        have hjl : j < l.length := by rw [HL.out]; exact hlt
        have k0 := cell_later' (cell_later' (hc j hlt) hb1) hb
        have hbl := bL_len HK.out
        have hll := len_stL l j
        have hxl : lx.length ≤ j := by have := congrArg List.length HX.out; simp at this; omega
        have HB : Hid _ := bL_succ hjl
        have HS0 : Hid _ := @st_empty l j hjl
        have HS1 : Hid _ := @st_bad l j hjl
        have HS2 : Hid (∀ (h0 : l.getD j [] ≠ []) (h1 : (l.getD j []).head? ≠ some 35) (h2 : lineE (l.getD j []) = 0), (stL l (j + 1)).out = (stL l j).out ++ [lineS (l.getD j [])] ∧ fst1 (stL l (j + 1)) = fst1 (stL l j)) := fun h0 h1 h2 => st_good hjl h0 h1 h2 (stL_k j (by omega) HK.out)
        have HK2 : Hid ((l.getD j []).length ≤ 150 → 10 ∉ l.getD j [] → (l.getD j []).head? ≠ some 35 → okL l (j + 1)) := fun h1 h2 h3 i hi => by
          rcases Nat.lt_or_ge i j with h | h
          · exact HK.out i h
          · obtain rfl : i = j := by omega
            exact ⟨h1, h2, h3⟩
        clear hc hcell HK
        generalize l.getD j [] = s at *
        generalize hBK : ended (l.take j) = BK at *
        clear hBK
        obtain ⟨FS, hFS⟩ : ∃ t, t = fst1 (stL l j) := ⟨_, rfl⟩
        have hFSe : Hid _ := hFS
        obtain ⟨OU, hOU⟩ : ∃ t, t = (stL l j).out := ⟨_, rfl⟩
        have hOUe : Hid _ := hOU
        rw [← hFS] at hw hll HS1 HS2
        rw [← hOU] at HX HS1 HS2 hll
        clear hFS hOU
        have hli := line_any s wr
        have hev := (he.later hb1).later hb
        by_cases h150 : (150 : Int) < s.length
        · go_wp2
          go_ret
          exact ⟨rfl, Below.chain hb1 hb⟩
        · have hli := hli (by omega) hev
          have hap : (((⟨BK.toArray⟩ : ByteArray) ++ ⟨s.toArray⟩) ++ ⟨#[10]⟩) = ⟨(BK ++ (s ++ [10])).toArray⟩ := by
            apply ByteArray.ext
            simp
          generalize BK ++ (s ++ [10]) = B2 at *
          go_wp2_with fail
          go_loop [7] (fun k => ∃ q : Nat, q ≤ s.length ∧ k = .int .i64 q ∧ Hid (10 ∉ s.take q)) (fun k => s.length - (intOf k).toNat)
          case atStart => exact ⟨0, by omega, rfl, by show ¬ _; simp⟩
          case round =>
            obtain ⟨q, hq, rfl, HQ⟩ := hrel
            by_cases hlq : q < s.length
            · have hbk := ba_lt hlq
              by_cases hc : (((⟨s.toArray⟩ : ByteArray)[q]'hbk).toNat : Int) = 10
              · have hc' : ((((⟨s.toArray⟩ : ByteArray)[q]'hbk).toNat : Int) == 10) = true := beq_iff_eq.2 hc
                clear hc
                go_wp2
                go_ret
                exact ⟨rfl, Below.chain hb1 hb⟩
              · have hc' : ((((⟨s.toArray⟩ : ByteArray)[q]'hbk).toNat : Int) == 10) = false := beq_eq_false_iff_ne.2 hc
                have HQ2 : Hid (10 ∉ s.take (q + 1)) := by
                  show ¬ _
                  rw [take_snocB s q hlq, List.mem_append]
                  rintro (h | h)
                  · exact HQ.out h
                  · simp at h
                    exact byte_ne (k := 10) (by decide) hc (show s[q] = 10 from h.symm)
                clear hc
                go_wp2
                go_round
                case rel => exact ⟨q + 1, by omega, by go_num, HQ2⟩
                case measure => simp [intOf]; omega
            · have hqs : ¬ (q : Int) < s.length := by omega
              have HNO : Hid (10 ∉ s) := by
                show ¬ _
                have := HQ.out
                rwa [List.take_of_length_le (by omega)] at this
              clear HQ
              by_cases hs0 : s = []
              · have hs' : (s == []) = true := beq_iff_eq.2 hs0
                have HSE : Hid _ := HS0.out hs0
                have HKE : Hid _ := HK2.out (by omega) HNO.out (by rw [hs0]; simp)
                clear hs0 HS0 HS1 HS2 HK2 HNO
                generalize lineS s = X at *
                generalize lineE s = E at *
                go_wp2_with fail
                refine hli.mono ?_
                rintro e w2 ⟨v2, rfl, ho2, hb2⟩
                obtain ⟨la, lc, rfl, hpl⟩ := ho2.fitN
                have hb3 := bal hb2 (.cells #[.slice la X.ls.length lc, .bool X.ov, .int .i64 X.n, .int .i64 X.t, .bool X.has, .int .i64 X.kind] 34)
                have hw3 := hw.later hb3
                have B3 := Below.chain hb hb3
                have k3 := cell_later' k0 hb3
                go_wp2
                go_roundw
                case rel => exact ⟨j + 1, _, _, lx, by omega, by rw [HB.out], rfl, rfl, by go_num, by rw [HSE.out, ← hFSe.out]; exact hw3, by rw [HSE.out, ← hOUe.out]; exact HX, HKE, B3⟩
                case measure => simp [intOf]; omega
              · have hs' : (s == []) = false := beq_eq_false_iff_ne.2 hs0
                have hpos : 0 < s.length := by
                  cases s with
                  | nil => exact absurd rfl hs0
                  | cons a b => simp
                have hbk := ba_lt hpos
                by_cases hq5 : (((⟨s.toArray⟩ : ByteArray)[0]'hbk).toNat : Int) = 35
                · have hq' : ((((⟨s.toArray⟩ : ByteArray)[0]'hbk).toNat : Int) == 35) = true := beq_iff_eq.2 hq5
                  clear hq5
                  go_wp2
                  go_ret
                  exact ⟨rfl, Below.chain hb1 hb⟩
                · have hq' : ((((⟨s.toArray⟩ : ByteArray)[0]'hbk).toNat : Int) == 35) = false := beq_eq_false_iff_ne.2 hq5
                  have hh : s.head? ≠ some 35 := by rw [head_eq hpos]; intro e; injection e with e; rw [e] at hq5; exact hq5 rfl
                  have HKE : Hid _ := HK2.out (by omega) HNO.out hh
                  clear HS0 HK2 HNO hq5
                  by_cases hE : lineE s = 0
                  · obtain ⟨t1, t2⟩ := HS2.out hs0 hh hE
                    have T1 : Hid _ := t1
                    have T2 : Hid _ := t2
                    rw [hE] at hli
                    clear t1 t2 HS1 HS2 hs0 hh hE
                    generalize lineS s = X at *
                    go_wp2_with fail
                    refine hli.mono ?_
                    rintro e w2 ⟨v2, rfl, ho2, hb2⟩
                    obtain ⟨la, lc, rfl, hpl⟩ := ho2.fitN
                    have hlw : ∀ b, (Value.slice la X.ls.length lc).ownBlock = some b → b < w2.heap.size ∧ wr.heap.size ≤ b := fun b e => ⟨(World.ownsRow.lt ho2 b e).2, (World.ownsRow.lt ho2 b e).1⟩
                    have hb3 := bal hb2 (.cells #[.slice la X.ls.length lc, .bool X.ov, .int .i64 X.n, .int .i64 X.t, .bool X.has, .int .i64 X.kind] 34)
                    have hw3 := hw.later hb3
                    have B3 := Below.chain hb hb3
                    have k3 := cell_later' k0 hb3
                    have hbx := BoxX.new w2 (.slice la X.ls.length lc) X
                    have hpl3 := hpl.later (bal (Below.refl _ w2) (.cells #[.slice la X.ls.length lc, .bool X.ov, .int .i64 X.n, .int .i64 X.t, .bool X.has, .int .i64 X.kind] 34))
                    have hz4 := bal (Below.refl _ (w2.alloc (.cells #[.slice la X.ls.length lc, .bool X.ov, .int .i64 X.n, .int .i64 X.t, .bool X.has, .int .i64 X.kind] 34))) (.cells #[.slice la X.ls.length lc, .bool X.ov, .int .i64 X.n, .int .i64 X.t, .bool X.has, .int .i64 X.kind] 34)
                    have hw4 := hw3.later hz4
                    have B4 := Below.chain B3 hz4
                    have hpl4 := hpl3.later hz4
                    have hbx4 := BoxX.new (w2.alloc (.cells #[.slice la X.ls.length lc, .bool X.ov, .int .i64 X.n, .int .i64 X.t, .bool X.has, .int .i64 X.kind] 34)) (.slice la X.ls.length lc) X
                    have hbs4 : w1.heap.size ≤ ((w2.alloc (.cells #[.slice la X.ls.length lc, .bool X.ov, .int .i64 X.n, .int .i64 X.t, .bool X.has, .int .i64 X.kind] 34)).alloc (.cells #[.slice la X.ls.length lc, .bool X.ov, .int .i64 X.n, .int .i64 X.t, .bool X.has, .int .i64 X.kind] 34)).heap.size := B4.size
                    have hsz4 : w2.heap.size ≤ ((w2.alloc (.cells #[.slice la X.ls.length lc, .bool X.ov, .int .i64 X.n, .int .i64 X.t, .bool X.has, .int .i64 X.kind] 34)).alloc (.cells #[.slice la X.ls.length lc, .bool X.ov, .int .i64 X.n, .int .i64 X.t, .bool X.has, .int .i64 X.kind] 34)).heap.size := by simp; omega
                    obtain ⟨c0, c1, c2, c3, c4, c5, _⟩ := hbx
                    go_wp2_with (at_builtin; go_must (refine wpList_append_own_at _ rfl _ _ 23 rfl 0 34 i9 (.agg #[.slice none 0 0, .bool false, .int .i64 0, .int .i64 0, .bool false, .int .i64 0]) 6 64 Tryz.underlying23 hi9 hy0 hy1 hy2 zero34 (by decide) _ _ _ rfl hw4.ox.row ⟨(w2.alloc (.cells #[.slice la X.ls.length lc, .bool X.ov, .int .i64 X.n, .int .i64 X.t, .bool X.has, .int .i64 X.kind] 34)).heap.size, 0, none⟩ 1 1 (six (.slice la X.ls.length lc, X)) ?hx rfl (six_cells hbx4) (fun u hu => by simp [six] at hu; rcases hu with rfl | rfl | rfl | rfl | rfl | rfl <;> rfl) ?h63 ?hby (Nat.zero_le _) ?_))
                    case hx => simp [Act.eval]
                    case h63 => unfold maxLen; omega
                    case hby => omega
                    intro v5 w5 ho5 hg5 _ hl5
                    have hw5 := hw4.good hbs4 ho5 hg5 (by simpa using hl5) ⟨la, lc, rfl, hpl4⟩ (fun b e => by
                      obtain ⟨y1, y2⟩ := hlw b e
                      refine ⟨by omega, fun e2 => ?_, fun e2 => ?_⟩
                      · have := (hw.ox.row.lt b e2).2; omega
                      · have := (World.ownsRow.lt hw.oi b e2).2; omega)
                    have B5 := B4.grown hg5 B4.size (fun k hk => (hw4.vb k hk).1)
                    go_wp2
                    go_roundw
                    case rel => exact ⟨j + 1, _, _, _, by omega, by rw [HB.out], rfl, rfl, by go_num, by rw [T2.out]; exact hw5, by show _ = _; rw [T1.out, List.map_append, HX.out]; rfl, HKE, B5⟩
                    case measure => simp [intOf]; omega
                  · obtain ⟨t1, t2⟩ := HS1.out hs0 hh hE
                    have T1 : Hid _ := t1
                    have T2 : Hid _ := t2
                    have hE' : (lineE s != 0) = true := by rw [bne_iff_ne]; exact hE
                    clear t1 t2 HS1 HS2 hs0 hh hE
                    generalize lineS s = X at *
                    generalize lineE s = E at *
                    go_wp2_with fail
                    refine hli.mono ?_
                    rintro e w2 ⟨v2, rfl, ho2, hb2⟩
                    obtain ⟨la, lc, rfl, hpl⟩ := ho2.fitN
                    have hb3 := bal hb2 (.cells #[.slice la X.ls.length lc, .bool X.ov, .int .i64 X.n, .int .i64 X.t, .bool X.has, .int .i64 X.kind] 34)
                    have hw3 := hw.later hb3
                    have B3 := Below.chain hb hb3
                    have k3 := cell_later' k0 hb3
                    have hz4 := bal (Below.refl _ (w2.alloc (.cells #[.slice la X.ls.length lc, .bool X.ov, .int .i64 X.n, .int .i64 X.t, .bool X.has, .int .i64 X.kind] 34))) (.cells #[.int .i64 ((j : Int) + 1)] 3)
                    have hw4 := hw3.later hz4
                    have B4 := Below.chain B3 hz4
                    go_wp2_with (at_builtin; go_must (refine wpList_append_own_at _ rfl _ _ 27 rfl w1.heap.size 3 i0 (.int .i64 0) 1 8 Tryz.underlying27 hi hz0 hz1 hz2 rfl (by decide) _ _ _ rfl hw4.oi ⟨(w2.alloc (.cells #[.slice la X.ls.length lc, .bool X.ov, .int .i64 X.n, .int .i64 X.t, .bool X.has, .int .i64 X.kind] 34)).heap.size, 0, none⟩ 1 1 [iv ((j : Int) + 1)] ?hx rfl (cell_one_new _ _ _) (fun u hu => by cases hu with | head => rfl | tail _ h => cases h) ?h63 ?hby ?hbs ?_))
                    case hx => simp [Act.eval]
                    case h63 => unfold maxLen; omega
                    case hby => omega
                    case hbs => exact B4.size
                    intro v5 w5 ho5 hg5 _ hl5
                    have hw5 := hw4.bad ho5 hg5 (by simpa using hl5)
                    have B5 := B4.grown hg5 B4.size (fun k hk => (World.ownsRow.lt hw4.oi k hk).1)
                    go_wp2
                    go_roundw
                    case rel => exact ⟨j + 1, _, _, lx, by omega, by rw [HB.out], rfl, rfl, by go_num, by rw [T2.out]; exact hw5, by show _ = _; rw [T1.out]; exact HX.out, HKE, B5⟩
                    case measure => simp [intOf]; omega
      · have hjl : j = l.length := by rw [HL.out]; omega
        have hll : l.length ≤ 12 := by rw [HL.out]; omega
        have hjlen : ¬ (j : Int) < len := by omega
        have HKl : okL l l.length := by have := HK.out; rwa [hjl] at this
        have hblen := bL_len HK.out
        have ebd : bodyS (ended (l.take j)) = stL l l.length := by rw [hjl]; exact bL_body hll HKl
        have hps := parseV_any (ended (l.take j)) wr (by omega) ((he.later hb1).later hb)
        rw [ebd] at hps
        rw [hjl] at hw HX
        have hcn := len_stL l l.length
        have hth : Thin (stL l l.length).out := thin_run _ _ _ (fun x hx => by cases hx)
        have hbn : (stL l l.length).bad.length = (fst1 (stL l l.length)).length := by unfold fst1; simp
        have hbd : ∀ i, i < (fst1 (stL l l.length)).length → ((stL l l.length).bad.getD i (0, 0)).1 = (fst1 (stL l l.length)).getD i 0 := fun i hi => by
          have hi2 : i < (stL l l.length).bad.length := by omega
          unfold fst1
          simp [List.getD, List.getElem?_eq_getElem hi2]
        rw [hbn] at hps
        obtain ⟨vo, vcap, rfl, hvx⟩ := hw.ox.view HX.out
        obtain ⟨uo, ucap, rfl, hui⟩ := hw.oi.view
        clear hw HX hcell ebd hjl HK HKl hblen
        generalize ended (l.take j) = BK at *
        generalize (stL l l.length).out = OU at *
        generalize (stL l l.length).bad = BA at *
        generalize fst1 (stL l l.length) = FS at *
        have HEQ : Hid (eqL OU OU = true) := (eqL_iff _ _).2 rfl
        have hff : ((FS.length : Int) != FS.length) = false := by simp
        go_wp2_with fail
        refine hps.mono ?_
        rintro e w2 ⟨xo, xcap, bo, bcap, rfl, hxs, hbs, hB⟩
        have hsm := sames_any xo OU.length xcap OU vo OU.length vcap OU w2 (by omega) hth hth hxs (hvx.later hB)
        rw [HEQ.out] at hsm
        have B2 := Below.chain (Below.chain hb1 hb) hB
        go_wp2_with fail
        refine hsm.mono ?_
        rintro e w3 ⟨rfl, hb3⟩
        have B3 := Below.chain B2 hb3
        have hin3 := (hui.later hB).later hb3
        have hbs3 := hbs.later hb3
        obtain ⟨_, hbc⟩ := hbs3
        obtain ⟨_, hic⟩ := hin3
        clear hps hsm hui hvx hxs hbs
        go_wp2_with fail
        go_loopw [12] (fun i wq => ∃ q : Nat, q ≤ FS.length ∧ i = .int .i64 q ∧ Below w3.heap.size w3 wq) (fun i _ => FS.length - (intOf i).toNat)
        case atStart => exact ⟨0, by omega, rfl, Below.refl _ _⟩
        case round =>
          obtain ⟨q, hq, rfl, hbq⟩ := hrel
          by_cases hlq : q < FS.length
          · obtain ⟨b1, o1, rfl, g1⟩ := hbc (by omega)
            obtain ⟨b2, o2, rfl, g2⟩ := hic (by omega)
            have x5 := (g1 q hlq).1
            have y5 := g2 q hlq
            rw [hbd q hlq] at x5
            have x5' := cell_later' x5 hbq
            have y5' := cell_later' y5 hbq
            clear g1 g2 hbc hic x5 y5 hbd
            generalize FS.getD q 0 = kk at *
            have hkn : (kk != kk) = false := by simp
            go_wp2
            go_quiet (fail)
            go_wp2
            go_roundw
            case rel => exact ⟨q + 1, by omega, by go_num, below_drewN hbq _⟩
            case measure => simp [intOf]; omega
          · go_wp2
            go_ret
            exact ⟨rfl, Below.chain B3 hbq⟩
end Go.Proofs.YtcbjhfnlhpallaaGreatDoor
