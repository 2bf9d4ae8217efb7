/- LexJoins: for every two texts. -/
import Derived.Test.YtajbjbnfklllkaaGreatDoorXJoinP
import Derived.Test.YtajbjbnfklllkaaGreatDoorXKnown
import Derived.Test.YtajbjbnfklllkaaGreatDoorXSame
import Derived.Laws.OwnMore
namespace Go.Proofs.YtajbjbnfklllkaaGreatDoor
open Go.RowKit

theorem cellsT_set : ∀ (l : List Tk) (j : Nat) (p : Int), j < l.length → (cellsT l).set (j * 6 + 1) (.int .i64 p) = cellsT (l.set j ((l.getD j tk0).put p))
  | [], j, _, h => by simp at h
  | x :: l, 0, p, _ => rfl
  | x :: l, j + 1, p, h => by
    have e : (j + 1) * 6 + 1 = (j * 6 + 1) + 6 := by omega
    have ih := cellsT_set l j p (by simpa using h)
    show (six x ++ cellsT l).set ((j + 1) * 6 + 1) _ = six x ++ cellsT (l.set j ((l.getD j tk0).put p))
    rw [← ih, e, List.set_append_right _ _ (by show 6 ≤ _; omega)]
    rfl
/-- The first j of them moved. -/
def upT (q : Int) (l : List Tk) (j : Nat) : List Tk := (l.take j).map (sh q) ++ l.drop j
theorem upT_len (q : Int) (l : List Tk) (j : Nat) : (upT q l j).length = l.length := by unfold upT; simp; omega
theorem upT_at {q : Int} {l : List Tk} {j : Nat} (h : j < l.length) : (upT q l j).getD j tk0 = l.getD j tk0 := by
  unfold upT
  simp [List.getD, List.getElem?_append_right, List.length_take, Nat.min_eq_left (Nat.le_of_lt h)]
theorem upT_next {q : Int} {l : List Tk} {j : Nat} (h : j < l.length) : (upT q l j).set j (sh q (l.getD j tk0)) = upT q l (j + 1) := by
  unfold upT
  rw [List.set_append_right _ _ (by simp; omega), List.length_map, List.length_take, Nat.min_eq_left (Nat.le_of_lt h), Nat.sub_self, List.drop_eq_getElem_cons h, List.set_cons_zero, List.take_succ_eq_append_getElem h, List.map_append, getT_at h]
  simp
theorem upT_all (q : Int) (l : List Tk) : upT q l l.length = l.map (sh q) := by unfold upT; simp
theorem OwnT.move {w : World} {base g n cap : Nat} {l : List Tk} (hl : l.length = n) (h : OwnT w base (.slice (some ⟨g, 0, none⟩) n cap) l) (j : Nat) (hj : j < n) (p : Int) : OwnT (w.setCell ⟨g, j * 6 + 1, none⟩ (.int .i64 p)) base (.slice (some ⟨g, 0, none⟩) n cap) (l.set j ((l.getD j tk0).put p)) := by
  unfold OwnT at *
  rw [hl] at h
  have := (World.ownsRow.stored h (j * 6 + 1) (.int .i64 p)).1
  rw [cellsT_set l j p (by omega)] at this
  rw [List.length_set, hl]
  exact this
theorem Ts.cells {w : World} {b off n : Nat} {l : List Tk} (h : Ts w (some ⟨b, off, none⟩) n l) : ∀ j u, (cellsT l)[j]? = some u → w.cell? ((⟨b, off, none⟩ : Addr).add j) = some u := by
  intro j u hu
  have hlt : j < (cellsT l).length := by
    by_cases hj : j < (cellsT l).length
    · exact hj
    · rw [List.getElem?_eq_none (by omega)] at hu; cases hu
  rw [cellsT_length, h.1] at hlt
  have e : j = j / 6 * 6 + j % 6 := by omega
  obtain ⟨b', off', e0, hc⟩ := h.2 (by omega)
  injection e0 with e0
  injection e0 with e1 e2 _
  subst e1 e2
  rw [Addr.add_lit]
  rw [e, cellsT_at l (j / 6) (j % 6) (by rw [h.1]; omega) (by omega)] at hu
  rw [← hu, ← hc (j / 6) (by omega) (j % 6) (by omega)]
  congr 2
  omega
theorem Ts.head {w : World} {ao : Option Addr} {n : Nat} {l : List Tk} (h : Ts w ao n l) (m : Nat) (hm : m ≤ n) : Ts w ao m (l.take m) := by
  obtain ⟨h1, h4⟩ := h
  refine ⟨by rw [List.length_take, h1]; omega, fun hp => ?_⟩
  obtain ⟨b, off, e, hc⟩ := h4 (by omega)
  refine ⟨b, off, e, fun j hj i hi => ?_⟩
  rw [hc j (by omega) i hi]
  congr 2
  simp [List.getD, List.getElem?_take_of_lt hj]
/-- An append behind a guard that says yes. -/
theorem wpList_app_guard {ops : Array Oper} {rest : List Oper} {o : Oper} {a : Act} {Q : Exit → Act → World → Prop} (W : World) (s x : Operand) (t : TypeId) (hw : Region.wanted o (yielded ops a.tmps) = true)
    (ho : o.op = .call { callee := .builtin .append, args := #[s, x], argTypes := #[t, t] })
    (base : Nat) (e : TypeId) (i : TypeInfo) (z : Value) (size bytes : Nat) (ht : Tryz.prog.underlying t = some (.slice e)) (hi : Tryz.prog.info? e = some i) (hz : i.zero = some z)
    (hsize : i.size = size) (hby : i.bytes = bytes) (hzs : z.cells.size = size) (hsz : 0 < size)
    (v : Value) (n : Nat) (xs : List Value) (hs : a.eval s = v) (hown : W.ownsRow base e size v n xs)
    (ad : Addr) (m c : Nat) (news : List Value) (hx : a.eval x = .slice (some ad) m c) (hl : news.length = m * size) (hnews : ∀ j u, news[j]? = some u → W.cell? (ad.add j) = some u) (h1 : ∀ u ∈ news, u.oneCell' = true)
    (h63 : n + m ≤ maxLen) (hbytes : (n + m) * bytes ≤ 140737488355328) (hbase : base ≤ W.heap.size)
    (h : ∀ v' w', w'.ownsRow base e size v' (n + m) (xs ++ news) → W.grownBy w' v.ownBlock → wpList Tryz.prog ops Q rest (a.put o.dst v') w') :
    wpList Tryz.prog ops Q (o :: rest) a W := by
  unfold wpList
  rw [if_pos hw]
  exact Or.inl (wp_append_own W s x t ho base e i z size bytes ht hi hz hsize hby hzs hsz v n xs hs hown ad m c news hx hl hnews h1 h63 hbytes hbase fun v' w' h2 h3 _ => h v' w' h2 h3)
set_option maxHeartbeats 8000000 in
set_option maxRecDepth 200000 in
theorem joins_any (a b : Str) (w : World) (ha : a.length ≤ 9223372036854775807) (hb : b.length ≤ 9223372036854775807) (he : Ev w) : Calls Tryz.prog 5 #[tx a, tx b] w fun e w' => e = .returned (.bool true) ∧ Below w.heap.size w w' := by
  obtain ⟨i0, hi, hz0, hz1, hz2⟩ := info_parts36
  have hk := known_any w he
  by_cases ha2 : 200 < a.length
  · have ha2' : (200 : Int) < a.length := by omega
    clear ha2
    go_enter Tryz.func5, Tryz.ntmps5
    go_wp2_with fail
    refine hk.mono ?_
    rintro e w1 ⟨rfl, hb1⟩
    go_wp2
    go_ret
    exact ⟨rfl, hb1⟩
  · have ha2' : ¬ (200 : Int) < a.length := by omega
    by_cases hb2 : 200 < b.length
    · have hb2' : (200 : Int) < b.length := by omega
      clear ha2 hb2
      go_enter Tryz.func5, Tryz.ntmps5
      go_wp2_with fail
      refine hk.mono ?_
      rintro e w1 ⟨rfl, hb1⟩
      go_wp2
      go_ret
      exact ⟨rfl, hb1⟩
    · have hb2' : ¬ (200 : Int) < b.length := by omega
      have HJ : Hid _ := joined (a := a) (b := b) (by omega) (by omega)
      have hs1 := fun W (hW : Ev W) => scan_any a W (by omega) hW
      have hs2 := fun W (hW : Ev W) => scan_any b W (by omega) hW
      have hs3 := fun W (hW : Ev W) => scan_any (a ++ 32 :: b) W (by simp; omega) hW
      have a1 : (⟨a.toArray⟩ : ByteArray) ++ ⟨#[32]⟩ = ⟨(a ++ [32]).toArray⟩ := ba_append a [32]
      have a2 : (⟨(a ++ [32]).toArray⟩ : ByteArray) ++ ⟨b.toArray⟩ = ⟨(a ++ 32 :: b).toArray⟩ := by rw [ba_append]; simp
      have hl1 : (a ++ [32]).length ≤ 201 := by simp; omega
      obtain ⟨a3, ha3⟩ : ∃ a3, a3 = a ++ [32] := ⟨_, rfl⟩
      rw [← ha3] at a1 a2 hl1
      clear ha3
      obtain ⟨c, hc⟩ : ∃ c, c = a ++ 32 :: b := ⟨_, rfl⟩
      rw [← hc] at HJ a2 hs3
      have hcl : c.length ≤ 401 := by rw [hc]; simp; omega
      clear hc
      have HFa : Hid _ := scL_facts a
      have HFb : Hid _ := scL_facts b
      have HFc : Hid _ := scL_facts c
      go_enter Tryz.func5, Tryz.ntmps5
      go_wp2_with fail
      refine hk.mono ?_
      rintro e w1 ⟨rfl, hb1⟩
      go_wp2_with fail
      refine (hs1 _ (he.later hb1)).mono ?_
      rintro e w2 ⟨v1, rfl, ho1, hb2⟩
      have B2 := Below.chain hb1 hb2
      go_wp2_with fail
      refine (hs2 _ (he.later B2)).mono ?_
      rintro e w3 ⟨v2, rfl, ho2, hb3⟩
      have B3 := Below.chain B2 hb3
      go_wp2_with fail
      refine (hs3 _ (he.later B3)).mono ?_
      rintro e w4 ⟨v3, rfl, ho3, hb4⟩
      have B4 := Below.chain B3 hb4
      clear hs1 hs2 hs3 hk
      rcases HJ.out with ⟨j1, j2⟩ | ⟨j1, j2, j3, j4⟩ | ⟨j1, j2, j3, l, j4, j5⟩
      · clear HJ
        have t1 : (scE a != 0) = true := by rw [bne_iff_ne]; exact j1
        have t2 : (scE a == 0) = false := by rw [beq_eq_false_iff_ne]; exact j1
        rcases j2 with j2 | ⟨j2, j3⟩
        · have t3 : (scE c != 0) = true := by rw [bne_iff_ne]; exact j2
          have t4 : (scE c == 0) = false := by rw [beq_eq_false_iff_ne]; exact j2
          clear j1 j2
          generalize scE a = E1 at *
          generalize scE c = E3 at *
          go_wp2
          go_ret
          exact ⟨rfl, B4⟩
        · obtain ⟨ao, cap, rfl, _, _, _⟩ := ho3.slice
          have hpos : 0 < (scL c).length := List.length_pos_iff.2 j3
          rw [j2]
          generalize (scL c).length = N at *
          have hN : (0 : Int) < N := by omega
          clear j1 j2 j3
          generalize scE a = E1 at *
          go_wp2
          go_ret
          exact ⟨rfl, B4⟩
      · clear HJ
        rw [j1, j2, j3]
        have hp0 : 0 ≤ scP b ∧ scP b ≤ 1000 := ⟨HFb.out.2.2.1, by have := HFb.out.2.2.2; omega⟩
        rw [j4]
        clear j1 j2 j3 j4
        generalize scP b = P2 at *
        obtain ⟨p0, p1⟩ := hp0
        go_wp2
        go_ret
        exact ⟨rfl, B4⟩
      · clear HJ
        rw [j1, j2, j3]
        have HFB : Hid (∀ x ∈ scL b, 0 ≤ x.p ∧ x.p ≤ 200) := fun x hx => by have := HFb.out.2.1 x hx; omega
        have hnb : (scL b).length ≤ 201 := by have := HFb.out.1; omega
        have hna : (scL a).length ≤ 201 := by have := HFa.out.1; omega
        have hnc : (scL c).length ≤ 402 := by have := HFc.out.1; omega
        rw [j4] at ho1 hna
        obtain ⟨ao2, cap2, rfl, hts2, hc2, hg2⟩ := ho2.slice
        obtain ⟨ao1, cap1, rfl, hts1, hc1, hg1⟩ := ho1.slice
        obtain ⟨ao3, cap3, rfl, hts3, hc3, hg3⟩ := ho3.slice
        have hp1 : 0 < (l ++ [tEnd a.length]).length := by simp
        obtain ⟨g1, o1, rfl, _⟩ := hts1.2 hp1
        obtain ⟨g1', e1, q1, q2⟩ := hg1 _ rfl
        injection e1 with e1 e2 _
        subst e1 e2
        have hlen1 : (l ++ [tEnd a.length]).length = l.length + 1 := by simp
        rw [hlen1] at ho1 hts1 hc1 hna ⊢
        have HLB : Hid (∀ j, j < (scL b).length → ((scL b).getD j tk0).p + (a.length : Int) + 1 = ((scL b).getD j tk0).p + ((a.length : Int) + 1) ∧ 0 ≤ ((scL b).getD j tk0).p ∧ ((scL b).getD j tk0).p ≤ 200) := fun j hj => by
          have := HFB.out ((scL b).getD j tk0) (by rw [getT_at hj]; exact List.getElem_mem hj)
          omega
        have hq1 : w1.heap.size ≤ g1 := q1
        have hq2 : g1 < w2.heap.size := q2
        have hw2 := hb3.size
        have hw3 := hb4.size
        have HO1 := (ho1.later hb3).later hb4
        have HO2 := ho2.later hb4
        have HTS2 : 0 < (scL b).length → ∃ g2, ao2 = some ⟨g2, 0, none⟩ ∧ w2.heap.size ≤ g2 ∧ g2 < w3.heap.size := fun hp => by
          obtain ⟨b', o', e, _⟩ := hts2.2 hp
          obtain ⟨g2, e2, h1, h2⟩ := hg2 _ e
          exact ⟨g2, by rw [e, e2], h1, h2⟩
        have HTS3 : ∀ x, ao3 = some x → w3.heap.size ≤ x.block := fun x e => by
          obtain ⟨g3, e3, h1, _⟩ := hg3 _ e
          rw [e3]
          exact h1
        have HM : Hid (scL c = l ++ (scL b).map (sh ((a.length : Int) + 1))) := j5
        have hposb : 0 < (scL b).length := scL_pos j2
        obtain ⟨g2, rfl, hq3, hq4⟩ := HTS2 hposb
        clear hts1 hts2 hts3 hg1 hg2 hg3 ho1 ho2 j1 j2 j3 j4 j5 HFa HFb HFc HFB HTS2 q1 q2
        generalize scL b = LB at *
        generalize scL c = LC at *
        obtain ⟨n2, hn2⟩ : ∃ n2, LB.length = n2 := ⟨_, rfl⟩
        obtain ⟨n1, hn1⟩ : ∃ n1, l.length = n1 := ⟨_, rfl⟩
        obtain ⟨n3, hn3⟩ : ∃ n3, LC.length = n3 := ⟨_, rfl⟩
        rw [hn2] at HO2 hnb hposb hc2 HLB ⊢
        rw [hn1] at HO1 hna hc1 ⊢
        rw [hn3] at ho3 hnc hc3 ⊢
        have HN2 : Hid (LB.length = n2) := hn2
        have HN1 : Hid (l.length = n1) := hn1
        have HN3 : Hid (LC.length = n3) := hn3
        clear hn1 hn2 hn3
        go_wp2_with fail
        go_loopw [14] (fun i wr => ∃ (j : Nat), j ≤ n2 ∧ i = .int .i64 j ∧ OwnT wr w2.heap.size (.slice (some ⟨g2, 0, none⟩) n2 cap2) (upT ((a.length : Int) + 1) LB j) ∧ OwnT wr w1.heap.size (.slice (some ⟨g1, 0, none⟩) (n1 + 1) cap1) (l ++ [tEnd a.length]) ∧ OwnT wr w3.heap.size (.slice ao3 n3 cap3) LC ∧ Below w.heap.size w wr ∧ w4.heap.size ≤ wr.heap.size) (fun i _ => n2 - (intOf i).toNat)
        case atStart => exact ⟨0, by omega, rfl, by unfold upT; simpa using HO2, HO1, ho3, B4, Nat.le_refl _⟩
        case round =>
          clear HO1 HO2 ho3
          obtain ⟨j, hj, rfl, HO2, HO1, HO3, hbw, hsz⟩ := hrel
          by_cases hlt : j < n2
          · have hjl : j < LB.length := by rw [HN2.out]; exact hlt
            obtain ⟨y1, y2, y3⟩ := HLB.out j hlt
            have Y1 : Hid _ := y1
            have HU := upT_next (q := (a.length : Int) + 1) hjl
            have HAT := upT_at (q := (a.length : Int) + 1) hjl
            have hul := (upT_len ((a.length : Int) + 1) LB j).trans HN2.out
            obtain ⟨_, _, e2, hts, _, _⟩ := HO2.slice
            rw [hul] at e2 hts
            injection e2 with e3 _ e4
            subst e3 e4
            have k1 := (hts.at j hlt).2.1
            rw [HAT] at k1
            have f1 : wr.frozen? ⟨g2, j * 6 + 1, none⟩ = false := World.ownsRow.frozenAt (by unfold OwnT at HO2; rw [hul] at HO2; exact HO2) _
            have HO2' := HO2.move hul j hlt ((LB.getD j tk0).p + ((a.length : Int) + 1))
            rw [HAT] at HO2'
            have HU2 : Hid (OwnT (wr.setCell ⟨g2, j * 6 + 1, none⟩ (.int .i64 ((LB.getD j tk0).p + ((a.length : Int) + 1)))) w2.heap.size (.slice (some ⟨g2, 0, none⟩) n2 cap2) (upT ((a.length : Int) + 1) LB (j + 1))) := by
              show OwnT _ _ _ _
              rw [← HU]
              exact HO2'
            have HO1' := HO1.kept (grown_set wr g2 (j * 6 + 1) (.int .i64 ((LB.getD j tk0).p + ((a.length : Int) + 1)))) (fun b e e' => by
              have h1 : g1 = b := Option.some.inj e
              have h2 : b = g2 := Option.some.inj e'
              omega)
            have HO3' := HO3.kept (grown_set wr g2 (j * 6 + 1) (.int .i64 ((LB.getD j tk0).p + ((a.length : Int) + 1)))) (fun b e e' => by
              have h1 := (World.ownsRow.lt HO3 b e).1
              have h2 : b = g2 := Option.some.inj e'
              omega)
            have hbw' := hbw.setCell (p := ⟨g2, j * 6 + 1, none⟩) (by have := B2.size; show _ ≤ g2; omega) (.int .i64 ((LB.getD j tk0).p + ((a.length : Int) + 1)))
            have hsz' : w4.heap.size ≤ (wr.setCell ⟨g2, j * 6 + 1, none⟩ (.int .i64 ((LB.getD j tk0).p + ((a.length : Int) + 1)))).heap.size := by simpa [World.setCell] using hsz
            clear HO2 HO1 HO3 HU HAT HO2' hts hul y1 hjl
            generalize (LB.getD j tk0).p = P at *
            rw [← Y1.out] at HU2 HO1' HO3' hbw' hsz'
            have kz := k1
            rw [Nat.zero_add] at kz
            clear k1
            go_wp2
            go_roundw
            case rel => exact ⟨j + 1, by omega, by go_num, HU2.out, HO1', HO3', hbw', hsz'⟩
            case measure => simp [intOf]; omega
          · obtain rfl : j = n2 := by omega
            have e0 : upT ((a.length : Int) + 1) LB j = LB.map (sh ((a.length : Int) + 1)) := by rw [← HN2.out]; exact upT_all _ _
            rw [e0] at HO2
            clear e0
            have hml : (LB.map (sh ((a.length : Int) + 1))).length = j := by rw [List.length_map]; exact HN2.out
            have HMM : Hid (LC = l ++ LB.map (sh ((a.length : Int) + 1))) := HM
            generalize LB.map (sh ((a.length : Int) + 1)) = MB at *
            obtain ⟨_, _, e1, hts1, _, _⟩ := HO1.slice
            have hl1 : (l ++ [tEnd a.length]).length = n1 + 1 := by rw [List.length_append, HN1.out]; rfl
            rw [hl1] at e1 hts1
            injection e1 with e3 _ e4
            subst e3 e4
            have hh := (hts1.head n1 (by omega)).cells
            have etake : (l ++ [tEnd a.length]).take n1 = l := by rw [← HN1.out]; simp
            rw [etake] at hh
            obtain ⟨_, _, e2, hts2, _, _⟩ := HO2.slice
            rw [hml] at e2 hts2
            injection e2 with e5 _ e6
            subst e5 e6
            obtain ⟨_, _, e7, hts3, _, _⟩ := HO3.slice
            rw [HN3.out] at e7 hts3
            injection e7 with e8 _ e9
            subst e8 e9
            have hnl : (cellsT l).length = n1 * 6 := by rw [cellsT_length, HN1.out]
            have hnm : (cellsT MB).length = j * 6 := by rw [cellsT_length, hml]
            have hcm := hts2.cells
            have HCM : Hid (∀ W, Below wr.heap.size wr W → ∀ i u, (cellsT MB)[i]? = some u → W.cell? ((⟨g2, 0, none⟩ : Addr).add i) = some u) := fun W hW => (hts2.later hW).cells
            clear hts1 hts2 hcm HO1 HO2 etake hl1 HLB
            go_wp2_with (at_builtin; go_must (refine wpList_app_guard _ _ _ 23 (by rfl) rfl wr.heap.size 36 i0 (.agg #[.int .i64 0, .int .i64 0, .string ⟨#[]⟩, .bool false, .int .i64 0, .int .i64 0]) 6 56 Tryz.underlying23 hi hz0 hz1 hz2 zero36 (by decide) _ _ _ rfl (OwnT.nil wr wr.heap.size) ⟨g1, 0, none⟩ n1 cap1 (cellsT l) rfl hnl hh (cellsT_one _) ?h63 ?hby ?hbs ?_))
            case h63 => unfold maxLen; omega
            case hby => omega
            intro v' w5 ho5 hg5
            have B5 : Below wr.heap.size wr w5 := ⟨hg5.os, hg5.tape, hg5.output, hg5.size, fun k hk => hg5.block k hk (by simp [Value.ownBlock])⟩
            go_wp2_with (at_builtin; go_must (refine wpList_app_guard _ _ _ 23 (by rfl) rfl wr.heap.size 36 i0 (.agg #[.int .i64 0, .int .i64 0, .string ⟨#[]⟩, .bool false, .int .i64 0, .int .i64 0]) 6 56 Tryz.underlying23 hi hz0 hz1 hz2 zero36 (by decide) _ _ _ rfl ho5 ⟨g2, 0, none⟩ j cap2 (cellsT MB) rfl hnm (HCM.out _ B5) (cellsT_one _) ?k63 ?kby ?kbs ?_))
            case k63 => unfold maxLen; omega
            case kby => omega
            case kbs => exact B5.size
            intro v2 w6 ho6 hg6
            have B6 : Below wr.heap.size wr w6 := B5.grown hg6 B5.size (fun k hk => (World.ownsRow.lt ho5 k hk).1)
            have ho7 : OwnT w6 wr.heap.size v2 (l ++ MB) := by
              unfold OwnT
              rw [cellsT_append, List.length_append, HN1.out, hml]
              simpa [show cellsT [] = [] from rfl] using ho6
            obtain ⟨ao7, cap7, rfl, hts7, hc7, _⟩ := ho7.slice
            have hl7 : (l ++ MB).length = n1 + j := by rw [List.length_append, HN1.out, hml]
            rw [hl7] at hts7 ⊢
            have hsm := same_any ao3 ao7 n3 (n1 + j) cap3 cap7 LC (l ++ MB) true w6 (by omega) (hts3.later B6) hts7 (by rw [HMM.out])
            have hbF := Below.chain hbw B6
            clear ho7 ho6 hts7 hg6 hg5 ho5
            go_wp2_with fail
            refine hsm.mono ?_
            rintro e w7 ⟨rfl, hb7⟩
            go_wp2
            go_ret
            exact ⟨rfl, Below.chain hbF hb7⟩
end Go.Proofs.YtajbjbnfklllkaaGreatDoor
