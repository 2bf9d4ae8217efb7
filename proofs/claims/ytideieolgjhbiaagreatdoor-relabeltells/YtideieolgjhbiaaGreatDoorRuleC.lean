/- What one rule makes of a set: matches, thinned, replaced, apply: each for every rule and set. -/
import Derived.Test.YtideieolgjhbiaaGreatDoorRuleB
import Derived.Test.YtideieolgjhbiaaGreatDoorHeld
import Derived.Test.YtideieolgjhbiaaGreatDoorWith
namespace Go.Proofs.YtideieolgjhbiaaGreatDoor
open Go.RowKit

theorem is_short {l : List Pr} (h : fIs l = true) : l.length ≤ 8 ∧ ∀ p ∈ l, p.1.length ≤ 20 ∧ p.2.length ≤ 30 := by
  obtain ⟨h1, h2, _⟩ := (is_iff l).1 h
  exact ⟨h1, fun p hp => ⟨(name_len (h2 p hp).1).2, (val_len (h2 p hp).2).2⟩⟩
theorem is_fit {l : List Pr} (h : fIs l = true) : Fit l := fun p hp => by have := (is_short h).2 p hp; omega
theorem is_fitP {l : List Pr} (h : fIs l = true) : FitP l := fun p hp => by
  have := (is_short h).2 p hp
  unfold Big
  omega
theorem get_short {l : List Pr} (h : fIs l = true) (n : Str) : (fGet l n).length ≤ 30 := by
  by_cases hn : ∃ p ∈ l, p.1 = n
  · obtain ⟨p, hp, rfl⟩ := hn
    rw [get_of_mem (rises_nodup ((is_iff l).1 h).2.2) hp]
    exact ((is_short h).2 p hp).2
  · rw [get_none fun p hp e => hn ⟨p, hp, e⟩]
    simp
theorem Ms.one (w : World) (m : Mat) : Ms (w.alloc (.cells #[tx m.name, .int .i64 m.kind, tx m.text] 33)) (some ⟨w.heap.size, 0, none⟩) 1 [m] := by
  refine ⟨rfl, fun _ => ⟨_, 0, rfl, fun j hj => ?_⟩⟩
  obtain rfl : j = 0 := by omega
  refine ⟨?_, ?_, ?_⟩ <;> simp [go_sem]
theorem all_one (l : List Pr) (m : Mat) : fAll l [m] = fOne m (fGet l m.name) := by simp [fAll]

set_option maxHeartbeats 1000000 in
theorem matches_any (r : Rl) (xa : Option Addr) (n c : Nat) (l : List Pr) (w : World) (hf : FitR r) (hl : fIs l = true) (hx : Ps w xa n l) :
    Calls Tryz.prog 39 #[qv r, .slice xa n c] w fun e w' => e = .returned (.bool (hit l r)) ∧ Below w.heap.size w w' := by
  have hb0 := bal (Below.refl _ w) (.cells #[tx r.frm.name, .int .i64 r.frm.kind, tx r.frm.text, .int .i64 r.act, tx r.tgt, tx r.txt] 51)
  have hn : n ≤ 8 := by rw [← hx.1]; exact (is_short hl).1
  have hal := fun W (hW : Below w.heap.size w W) => all_any xa n c l _ 1 1 [r.frm] _ (by omega) (by omega) (hx.later (bal hW (.cells #[tx r.frm.name, .int .i64 r.frm.kind, tx r.frm.text] 33))) (Ms.one W r.frm) (is_fitP hl) (fun m hm => by rw [List.mem_singleton.1 hm]; exact ⟨hf.1, hf.2.1⟩)
  rw [all_one] at hal
  have hsz : (w.alloc (.cells #[tx r.frm.name, .int .i64 r.frm.kind, tx r.frm.text, .int .i64 r.act, tx r.tgt, tx r.txt] 51)).heap.size = w.heap.size + 1 := by simp [go_sem]
  have hal1 := hal _ hb0
  rw [hsz] at hal1
  clear hal hsz
  unfold hit
  generalize fOne r.frm (fGet l r.frm.name) = b at *
  obtain ⟨act, ⟨nn, kk, tt⟩, tgt, txt⟩ := r
  go_enter Tryz.func39, Tryz.ntmps39
  go_wp2_with fail
  generalize w.alloc (.cells _ 51) = w0 at *
  refine hal1.mono ?_
  rintro e w1 ⟨rfl, hb1⟩
  go_wp2_with fail
  go_ret
  exact ⟨rfl, Below.chain (bal hb0 _) hb1⟩

/-! ### thinned -/
theorem wp_appS {w w0 : World} {ops : Array Oper} {rest : List Oper} {o : Oper} {a : Act} {Q : Exit → Act → World → Prop} (hgd : o.guard = none) (s x : Operand)
    (ho : o.op = .call { callee := .builtin .append, args := #[s, x], argTypes := #[78, 78] }) (base : Nat) (v : Value) (acc : List Str) (p : Str) (b : Nat) (hs : a.eval s = v) (hx : a.eval x = .slice (some ⟨b, 0, none⟩) 1 1)
    (hown : OwnS w base v acc) (hc : w.cell? ⟨b, 0, none⟩ = some (tx p)) (hb : Below base w0 w) (hb0 : base ≤ w0.heap.size) (hN : acc.length ≤ 1000000)
    (h : ∀ v' w', OwnS w' base v' (acc ++ [p]) → Below base w0 w' → wpList Tryz.prog ops Q rest (a.put o.dst v') w') : wpList Tryz.prog ops Q (o :: rest) a w := by
  obtain ⟨i0, hi, hz0, hz1, hz2⟩ := info_parts9
  refine wpList_append_own w hgd s x 78 ho base 9 i0 (tx []) 1 16 Tryz.underlying78 hi hz0 hz1 hz2 (by kernel_rfl) (by decide) v acc.length (acc.map tx) hs hown ⟨b, 0, none⟩ 1 1 [tx p] hx rfl ?_ ?_ (by unfold maxLen; omega) (by omega) (Nat.le_trans hb0 hb.size) ?_
  · intro j u hu
    match j, hu with
    | 0, hu =>
      have : tx p = u := by simpa using hu
      rw [← this]
      exact hc
    | j + 1, hu => simp at hu
  · intro u hu
    rw [List.mem_singleton.1 hu]
    rfl
  · intro v' w' h2 h3 _
    exact h v' w' (OwnS.snoc h2) (hb.grown h3 (Nat.le_trans hb0 hb.size) (fun k hk => (World.ownsRow.lt hown k hk).1))
def upS (r : Rl) (l : List Pr) (j : Nat) : List Str := ((l.take j).filter (stays r)).map (·.1)
theorem upS_yes {r : Rl} {l : List Pr} {j : Nat} (hj : j < l.length) (h : stays r (l.getD j ([], [])) = true) : upS r l (j + 1) = upS r l j ++ [(l.getD j ([], [])).1] := by
  unfold upS
  rw [take_filter_yes hj h, List.map_append]
  rfl
theorem upS_no {r : Rl} {l : List Pr} {j : Nat} (hj : j < l.length) (h : stays r (l.getD j ([], [])) = false) : upS r l (j + 1) = upS r l j := by
  unfold upS
  rw [take_filter_no hj h]
theorem upS_all {r : Rl} {l : List Pr} {j : Nat} (hj : l.length ≤ j) : fKeep l (upS r l j) = thin l r := by
  unfold upS
  rw [List.take_of_length_le hj]
  exact keep_thin l r

set_option maxRecDepth 100000 in
set_option maxHeartbeats 4000000 in
theorem thinned_any (r : Rl) (xa : Option Addr) (n c : Nat) (l : List Pr) (w : World) (hf : FitR r) (hl : fIs l = true) (hx : Ps w xa n l) :
    Calls Tryz.prog 41 #[qv r, .slice xa n c] w fun e w' => ∃ v, e = .returned v ∧ Own w' w.heap.size v (thin l r) ∧ Below w.heap.size w w' := by
  have hb0 := bal (Below.refl _ w) (.cells #[tx r.frm.name, .int .i64 r.frm.kind, tx r.frm.text, .int .i64 r.act, tx r.tgt, tx r.txt] 51)
  have hbx := BoxQ.new w r
  have HZ : Hid ((w.alloc (.cells #[tx r.frm.name, .int .i64 r.frm.kind, tx r.frm.text, .int .i64 r.act, tx r.tgt, tx r.txt] 51)).heap.size = w.heap.size + 1) := by show _ = _; simp [go_sem]
  have hn : n ≤ 8 := by rw [← hx.1]; exact (is_short hl).1
  have hglob := fun j W => glob_any r.frm.text (l.getD j ([], [])).1 W hf.2.1 ((is_fit hl).at j).1
  have hkeep := fun W (hW : Below w.heap.size w W) (ya : Option Addr) (m d : Nat) (ns : List Str) (hm : m ≤ 1000) (hy : Ss W ya m ns) => keep_any xa n c l ya m d ns W (by omega) (by omega) (hx.later hW) hy
  have HY : Hid _ := @upS_yes r l
  have HNo : Hid _ := @upS_no r l
  have HA : Hid _ := @upS_all r l
  have HST : Hid (∀ j, stays r (l.getD j ([], [])) = (decide ((l.getD j ([], [])).1 = nm) || !gm r.frm.text (l.getD j ([], [])).1)) := fun _ => rfl
  obtain ⟨hlen, hcell⟩ := hx
  have HL : Hid (l.length = n) := hlen
  have HU0 : Hid (upS r l 0 = []) := rfl
  generalize upS r l = up at *
  generalize stays r = sy at *
  generalize thin l r = th at *
  clear hlen hl hf
  obtain ⟨act, ⟨nn, kk, tt⟩, tgt, txt⟩ := r
  dsimp only at hglob HST
  go_enter Tryz.func41, Tryz.ntmps41
  go_wp2_with fail
  generalize w.alloc (.cells _ 51) = w0 at *
  have hbe : Below w0.heap.size w0 (w0.alloc (.cells #[] 9)) := bal (Below.refl _ _) _
  have ho0 : OwnS (w0.alloc (.cells #[] 9)) w0.heap.size (.slice (some ⟨w.heap.size + 1, 0, none⟩) 0 0) [] := by rw [← HZ.out]; exact World.ownsRow_made w0 #[] 0 (Nat.le_refl _) (Nat.zero_le _) (by simp)
  go_loopw [11, 5] (fun i u W => ∃ (j : Nat) (v : Value) (out : List Str), j ≤ n ∧ i = .int .i64 j ∧ v = u ∧ OwnS W w0.heap.size v out ∧ Hid (out = up j) ∧ out.length ≤ j ∧ Below w0.heap.size w0 W) (fun i _ _ => n - (intOf i).toNat)
  case atStart => exact ⟨0, _, [], by omega, rfl, rfl, ho0, HU0.out.symm, Nat.le_refl _, hbe⟩
  case round =>
    obtain ⟨j, v, out, hj, rfl, rfl, ho, HO, hol, hb⟩ := hrel
    by_cases hlt : j < n
    · obtain ⟨b, off, rfl, hc⟩ := hcell (by omega)
      have hb00 := Below.chain hb0 hb
      have hc0 := (hc j hlt).1
      have hc1 := (hc j hlt).2
      have k0 := (hb00.cell (p := ⟨b, off + j * 2, none⟩) (World.block_lt_of_cell? _ _ hc0)).trans hc0
      have k1 := (hb00.cell (p := ⟨b, off + j * 2 + 1, none⟩) (World.block_lt_of_cell? _ _ hc1)).trans hc1
      have hlt' : j < l.length := by rw [HL.out]; exact hlt
      have HYj : Hid _ := HY.out hlt'
      have HNj : Hid _ := HNo.out hlt'
      have hgl := hglob j
      have HSj : Hid _ := HST.out j
      have cq2 := ((hbx.later hb).later (bal (Below.refl _ wr) (.cells #[tx (l.getD j ([], [])).1, tx (l.getD j ([], [])).2] 44))).c2
      have hbp := Box.new wr (l.getD j ([], []))
      have hbn := bal hb (.cells #[tx (l.getD j ([], [])).1, tx (l.getD j ([], [])).2] 44)
      have hon := ho.later (bal (Below.refl _ wr) (.cells #[tx (l.getD j ([], [])).1, tx (l.getD j ([], [])).2] 44))
      clear hc hcell hc0 hc1 hlt' HY HNo HST hglob ho
      generalize l.getD j ([], []) = p at *
      obtain ⟨p1, p2⟩ := p
      dsimp only at *
      have HZ1 : Hid ((wr.alloc (.cells #[tx p1, tx p2] 44)).heap.size = wr.heap.size + 1) := by show _ = _; simp [go_sem]
      by_cases he : p1 = nm
      · have he' : (p1 == [95, 95, 110, 97, 109, 101, 95, 95]) = true := beq_iff_eq.2 he
        have HR : Hid (out ++ [p1] = up (j + 1)) := by show _ = _; rw [HO.out, HYj.out (by rw [HSj.out, he]; rfl)]
        have ho3 := hon.later (bal (Below.refl _ _) (.cells #[tx p1] 9))
        have hb3 := bal hbn (.cells #[tx p1] 9)
        have hc3 : ((wr.alloc (.cells #[tx p1, tx p2] 44)).alloc (.cells #[tx p1] 9)).cell? ⟨wr.heap.size + 1, 0, none⟩ = some (tx p1) := by rw [← HZ1.out]; exact World.cell?_alloc_new _ _ _ 0
        clear HYj HNj HSj HO he hgl hon hbn
        go_wp2_with (at_builtin; go_must (refine wp_appS (w0 := w0) rfl _ _ rfl w0.heap.size v out p1 (wr.heap.size + 1) rfl rfl ho3 hc3 hb3 (Nat.le_refl _) (by omega) ?_; intro v7 w7 o7 b7))
        go_wp2_with fail
        go_roundw
        case rel => exact ⟨j + 1, _, _, by omega, by go_num, rfl, o7, HR, by simp; omega, b7⟩
        case measure => simp [intOf]; omega
      · have he' : (p1 == [95, 95, 110, 97, 109, 101, 95, 95]) = false := beq_eq_false_iff_ne.2 he
        cases hg : gm tt p1 with
        | true =>
          have HR : Hid (out = up (j + 1)) := by show _ = _; rw [HO.out, HNj.out (by rw [HSj.out, hg, decide_eq_false he]; rfl)]
          rw [hg] at hgl
          clear HYj HNj HSj HO he hg
          go_wp2_with fail
          generalize wr.alloc (.cells _ 44) = wa at *
          refine (hgl _).mono ?_
          rintro e wg ⟨rfl, hbg⟩
          have og := hon.later hbg
          have bg := hbn.trans (hbg.mono hbn.size)
          go_wp2_with fail
          go_roundw
          case rel => exact ⟨j + 1, _, _, by omega, by go_num, rfl, og, HR, by omega, bg⟩
          case measure => simp [intOf]; omega
        | false =>
          have HR : Hid (out ++ [p1] = up (j + 1)) := by show _ = _; rw [HO.out, HYj.out (by rw [HSj.out, hg]; simp)]
          rw [hg] at hgl
          clear HYj HNj HSj HO he hg
          go_wp2_with fail
          generalize wr.alloc (.cells _ 44) = wa at *
          refine (hgl _).mono ?_
          rintro e wg ⟨rfl, hbg⟩
          have og := hon.later hbg
          have bg := hbn.trans (hbg.mono hbn.size)
          have cp := (hbp.later hbg).c0
          have ho3 := og.later (bal (Below.refl _ _) (.cells #[tx p1] 9))
          have hb3 := bg.alloc (Nat.le_trans (Nat.le_refl _) bg.size) (.cells #[tx p1] 9)
          have hc3 : (wg.alloc (.cells #[tx p1] 9)).cell? ⟨wg.heap.size, 0, none⟩ = some (tx p1) := World.cell?_alloc_new _ _ _ 0
          clear hon hbn hbg og bg
          go_wp2_with (at_builtin; go_must (refine wp_appS (w0 := w0) rfl _ _ rfl w0.heap.size v out p1 (wg.heap.size) rfl rfl ho3 hc3 hb3 (Nat.le_refl _) (by omega) ?_; intro v7 w7 o7 b7))
          go_wp2_with fail
          go_roundw
          case rel => exact ⟨j + 1, _, _, by omega, by go_num, rfl, o7, HR, by simp; omega, b7⟩
          case measure => simp [intOf]; omega
    · have HE : Hid (fKeep l out = th) := by show _ = _; rw [HO.out]; exact HA.out (by rw [HL.out]; omega)
      obtain ⟨ao, cap, rfl, hss, _⟩ := ho.slice
      have hk := hkeep wr (Below.chain hb0 hb) ao out.length cap out (by omega) hss
      rw [HE.out] at hk
      have hon : out.length ≤ 8 := by omega
      generalize out.length = N at *
      go_wp2_with fail
      refine hk.mono ?_
      rintro e w2 ⟨v2, rfl, o2, b2⟩
      have B1 := Below.chain hb0 hb
      go_wp2_with fail
      go_ret
      exact ⟨_, rfl, o2.base B1.size, Below.chain B1 b2⟩
/-! ### replaced -/
theorem Fit.one {p : Pr} (h1 : p.1.length ≤ 100000) (h2 : p.2.length ≤ 100000) : Fit [p] := fun q hq => by rw [List.mem_singleton.1 hq]; omega
set_option maxRecDepth 100000 in
set_option maxHeartbeats 4000000 in
theorem replaced_any (r : Rl) (xa : Option Addr) (n c : Nat) (l : List Pr) (w : World) (hf : FitR r) (hs : Short r) (hl : fIs l = true) (hx : Ps w xa n l) (hm : Mx w) :
    Calls Tryz.prog 40 #[qv r, .slice xa n c] w fun e w' => ∃ ao N cap, e = .returned (.tuple #[.slice ao N cap, .int .i64 (if hit l r = true then withE l (setP l r) else 0)]) ∧ Ps w' ao N (if hit l r = true then withL l (setP l r) else l) ∧ Below w.heap.size w w' := by
  have hb0 := bal (Below.refl _ w) (.cells #[tx r.frm.name, .int .i64 r.frm.kind, tx r.frm.text, .int .i64 r.act, tx r.tgt, tx r.txt] 51)
  have hbx := BoxQ.new w r
  have hn : n ≤ 8 := by rw [← hx.1]; exact (is_short hl).1
  have hmt := matches_any r xa n c l _ hf hl (hx.later hb0)
  cases hh : hit l r with
  | false =>
    rw [hh] at hmt
    rw [if_neg (by simp), if_neg (by simp)]
    clear hh
    obtain ⟨act, ⟨nn, kk, tt⟩, tgt, txt⟩ := r
    go_enter Tryz.func40, Tryz.ntmps40
    go_wp2_with fail
    generalize w.alloc (.cells _ 51) = w0 at *
    refine hmt.mono ?_
    rintro e w1 ⟨rfl, hb1⟩
    have B1 := Below.chain hb0 hb1
    go_wp2_with fail
    go_ret2
    exact ⟨_, _, _, rfl, hx.later B1, B1⟩
  | true =>
    rw [hh] at hmt
    rw [if_pos rfl, if_pos rfl]
    clear hh
    have hgl := get_short hl r.frm.name
    have hvl := dol_len r.txt (fGet l r.frm.name)
    have hs4 := hs.2.2.2
    have hvl2 : (dol r.txt (fGet l r.frm.name)).length ≤ 100000 := by
      have : r.txt.length * ((fGet l r.frm.name).length + 1) ≤ 100 * 31 := Nat.mul_le_mul hs4 (by omega)
      omega
    have hget := fun W (hW : Below w.heap.size w W) => get_any xa n c l r.frm.name W (by omega) (hx.later hW)
    have hrep := fun W (hW : Below w.heap.size w W) => repl_any r.txt 36 (fGet l r.frm.name) W (by omega) (by omega) (hm.later hW)
    rw [dol_eq] at hrep
    have hwi := fun W (hW : Below w.heap.size w W) => with_any xa n c l _ 1 1 (setP l r) _ (by omega) (by omega) (is_fit hl) (Fit.one (by have := hs.2.2.1; show r.tgt.length ≤ _; omega) hvl2) (hx.later (bal hW (.cells #[tx r.tgt, tx (dol r.txt (fGet l r.frm.name))] 44))) (Ps.one W (r.tgt, dol r.txt (fGet l r.frm.name)))
    generalize withE l (setP l r) = we at *
    generalize withL l (setP l r) = wl at *
    clear hf hs hs4 hgl hvl hvl2
    generalize dol r.txt (fGet l r.frm.name) = val at *
    generalize fGet l r.frm.name = gv at *
    obtain ⟨act, ⟨nn, kk, tt⟩, tgt, txt⟩ := r
    dsimp only at hget hrep hwi
    go_enter Tryz.func40, Tryz.ntmps40
    go_wp2_with fail
    generalize w.alloc (.cells _ 51) = w0 at *
    refine hmt.mono ?_
    rintro e w1 ⟨rfl, hb1⟩
    have B1 := Below.chain hb0 hb1
    have hbx1 := hbx.later hb1
    clear hmt hbx
    go_wp2_with fail
    · skip
      have C0 : Below w1.heap.size w1 w1.drew := (Below.refl _ _).drew
      refine wp_region_noPanic ?_
      refine wp_region_held_drew (S := fun W => Below w1.heap.size w1 W) (by kernel_rfl) ?_ (fun _ => ?_)
      · exact C0
      generalize w1.drew = wd at *
      refine take_at 0 (some 12) (.pointer (some ⟨w.heap.size, 5, none⟩)) rfl rfl (by kernel_rfl) (by kernel_rfl) (by kernel_rfl) (fun _ _ _ h => h) (by rfl) (fun W hSw => by go_simp) C0 ?_
      simp only [Act.put, List.setIfInBounds_toArray, List.set_cons_zero, List.set_cons_succ]
      refine take_at 1 (some 13) (tx txt) rfl rfl (by kernel_rfl) (by kernel_rfl) (by kernel_rfl) (fun _ _ _ h => h) (by rfl) (fun W hSw => by have c0 := (hbx1.later hSw).c5; dsimp only at c0; go_simp) C0 ?_
      simp only [Act.put, List.setIfInBounds_toArray, List.set_cons_zero, List.set_cons_succ]
      refine take_at 2 (some 14) (.slice xa n c) rfl rfl (by kernel_rfl) (by kernel_rfl) (by kernel_rfl) (fun _ _ _ h => h) (by rfl) (fun W hSw => by go_simp) C0 ?_
      simp only [Act.put, List.setIfInBounds_toArray, List.set_cons_zero, List.set_cons_succ]
      refine take_at 3 (some 15) (.pointer (some ⟨w.heap.size, 0, none⟩)) rfl rfl (by kernel_rfl) (by kernel_rfl) (by kernel_rfl) (fun _ _ _ h => h) (by rfl) (fun W hSw => by go_simp) C0 ?_
      simp only [Act.put, List.setIfInBounds_toArray, List.set_cons_zero, List.set_cons_succ]
      refine take_at 4 (some 16) (.pointer (some ⟨w.heap.size, 0, none⟩)) rfl rfl (by kernel_rfl) (by kernel_rfl) (by kernel_rfl) (fun _ _ _ h => h) (by rfl) (fun W hSw => by go_simp) C0 ?_
      simp only [Act.put, List.setIfInBounds_toArray, List.set_cons_zero, List.set_cons_succ]
      refine take_at 5 (some 17) (tx nn) rfl rfl (by kernel_rfl) (by kernel_rfl) (by kernel_rfl) (fun _ _ _ h => h) (by rfl) (fun W hSw => by have c0 := (hbx1.later hSw).c0; dsimp only at c0; go_simp) C0 ?_
      simp only [Act.put, List.setIfInBounds_toArray, List.set_cons_zero, List.set_cons_succ]
      refine wpAnyH_ready (rs := [6]) (by kernel_rfl) (by simp) ?_
      refine AllReadyH.cons rfl (fun K hK => ?_) AllReadyH.nil
      go_simp
      refine (hget _ (Below.chain B1 C0)).mono ?_
      rintro e wc1 ⟨rfl, hc1⟩
      have C1 := Below.chain C0 hc1
      refine hK.out _ _ ?_ (fun _ => ?_)
      · exact C1
      clear hK K
      refine wpAnyH_ready (rs := [7]) (by kernel_rfl) (by simp) ?_
      refine AllReadyH.cons rfl (fun K hK => ?_) AllReadyH.nil
      go_simp
      refine (hrep _ (Below.chain B1 C1)).mono ?_
      rintro e wc2 ⟨rfl, hc2⟩
      have C2 := Below.chain C1 hc2
      refine hK.out _ _ ?_ (fun _ => ?_)
      · exact C2
      clear hK K
      refine take_at 8 (some 6) (tx val) rfl rfl (by kernel_rfl) (by kernel_rfl) (by kernel_rfl) (fun _ _ _ h => h) (by rfl) (fun W hSw => by go_simp) C2 ?_
      simp only [Act.put, List.setIfInBounds_toArray, List.set_cons_zero, List.set_cons_succ]
      refine wpAnyH_done (by kernel_rfl) ?_ _
      refine NoPanic.normal ?_
      have B2 := Below.chain B1 C2
      have hbx2 := hbx1.later C2
      have hwi2 := hwi _ B2
      have hb3 := bal B2 (.cells #[tx tgt, tx val] 44)
      clear hwi hget hrep hc1 hc2 C0 C1 C2 hb1
      obtain ⟨c0, c1, c2, c3, c4, c5⟩ := hbx2
      dsimp only at c4
      go_wp2_with fail
      refine hwi2.mono ?_
      rintro e w4 ⟨v4, rfl, o4, b4⟩
      obtain ⟨ao, cap, rfl, hps⟩ := o4.fitN
      go_wp2_with fail
      go_ret2
      exact ⟨_, _, _, rfl, hps, Below.chain hb3 b4⟩

/-! ### apply -/
set_option maxRecDepth 100000 in
set_option maxHeartbeats 4000000 in
theorem apply1_any (r : Rl) (xa : Option Addr) (n c : Nat) (l : List Pr) (w : World) (hf : FitR r) (hs : Short r) (hl : fIs l = true) (hx : Ps w xa n l) (hm : Mx w) :
    Calls Tryz.prog 21 #[qv r, .slice xa n c] w fun e w' => ∃ ao N cap, e = .returned (.tuple #[.slice ao N cap, .bool (ap1K l r), .int .i64 (ap1E l r)]) ∧ Ps w' ao N (ap1S l r) ∧ Below w.heap.size w w' := by
  have hb0 := bal (Below.refl _ w) (.cells #[tx r.frm.name, .int .i64 r.frm.kind, tx r.frm.text, .int .i64 r.act, tx r.tgt, tx r.txt] 51)
  have hmt := matches_any r xa n c l _ hf hl (hx.later hb0)
  have hrp := replaced_any r xa n c l _ hf hs hl (hx.later hb0) (hm.later hb0)
  have hth := thinned_any r xa n c l _ hf hl (hx.later hb0)
  have HK : Hid _ := (rfl : ap1K l r = ap1K l r)
  unfold ap1K ap1E ap1S
  clear HK hf hs hl
  generalize (if hit l r = true then withL l (setP l r) else l) = wl at *
  have HD : Hid ((if hit l r = true then decide (withE l (setP l r) = 0) else true) = decide ((if hit l r = true then withE l (setP l r) else 0) = 0)) := by
    show _ = _
    split <;> simp
  rw [HD.out]
  clear HD
  generalize (if hit l r = true then withE l (setP l r) else 0) = we at *
  generalize thin l r = tl at *
  generalize hit l r = ht at *
  obtain ⟨act, ⟨nn, kk, tt⟩, tgt, txt⟩ := r
  dsimp only at *
  by_cases h1 : act = 1
  · subst h1
    rw [if_pos rfl, if_pos rfl, if_neg (show ¬ (1 : Int) = 3 by decide)]
    go_enter Tryz.func21, Tryz.ntmps21
    go_wp2_with fail
    generalize w.alloc (.cells _ 51) = w0 at *
    refine hmt.mono ?_
    rintro e w1 ⟨rfl, hb1⟩
    go_wp2_with fail
    go_ret3
    exact ⟨_, _, _, rfl, hx.later (Below.chain hb0 hb1), Below.chain hb0 hb1⟩
  · have t1 : (act == 1) = false := by simpa using h1
    rw [if_neg h1, if_neg h1]
    by_cases h2 : act = 2
    · subst h2
      rw [if_pos rfl, if_pos rfl, if_neg (show ¬ (2 : Int) = 3 by decide)]
      go_enter Tryz.func21, Tryz.ntmps21
      go_wp2_with fail
      generalize w.alloc (.cells _ 51) = w0 at *
      refine hmt.mono ?_
      rintro e w1 ⟨rfl, hb1⟩
      go_wp2_with fail
      go_ret3
      exact ⟨_, _, _, rfl, hx.later (Below.chain hb0 hb1), Below.chain hb0 hb1⟩
    · have t2 : (act == 2) = false := by simpa using h2
      rw [if_neg h2, if_neg h2]
      by_cases h3 : act = 3
      · subst h3
        rw [if_pos rfl, if_pos rfl, if_pos rfl]
        by_cases hw : we = 0
        · have hw' : (we == 0) = true := by simpa using hw
          rw [decide_eq_true hw]
          clear hw
          go_enter Tryz.func21, Tryz.ntmps21
          go_wp2_with fail
          generalize w.alloc (.cells _ 51) = w0 at *
          refine hrp.mono ?_
          rintro e w1 ⟨ao, N, cap, rfl, hps, hb1⟩
          go_wp2_with fail
          go_ret3
          exact ⟨_, _, _, rfl, hps, Below.chain hb0 hb1⟩
        · have hw' : (we == 0) = false := by simpa using hw
          rw [decide_eq_false hw]
          clear hw
          go_enter Tryz.func21, Tryz.ntmps21
          go_wp2_with fail
          generalize w.alloc (.cells _ 51) = w0 at *
          refine hrp.mono ?_
          rintro e w1 ⟨ao, N, cap, rfl, hps, hb1⟩
          go_wp2_with fail
          go_ret3
          exact ⟨_, _, _, rfl, hps, Below.chain hb0 hb1⟩
      · have t3 : (act == 3) = false := by simpa using h3
        rw [if_neg h3, if_neg h3, if_neg h3]
        go_enter Tryz.func21, Tryz.ntmps21
        go_wp2_with fail
        generalize w.alloc (.cells _ 51) = w0 at *
        refine hth.mono ?_
        rintro e w1 ⟨v1, rfl, o1, hb1⟩
        obtain ⟨ao, cap, rfl, hps⟩ := o1.fitN
        go_wp2_with fail
        go_ret3
        exact ⟨_, _, _, rfl, hps, Below.chain hb0 hb1⟩
end Go.Proofs.YtideieolgjhbiaaGreatDoor
