/- Len, First, Last, push, forget: of every window. -/
import Derived.Test.YtchopogodfghoaaRSet
import Derived.BigRegion
namespace Go.Proofs.Ytchopogodfghoaa
open Go.RowKit

theorem len_any (b : Nat) (l : List Smp) (k now : Int) (w : World) (h : Rl w b l k now) :
    Calls Try.prog 19 #[.pointer (some ⟨b, 0, none⟩)] w fun e w' => e = .returned (.int .i64 l.length) ∧ w = w' := by
  obtain ⟨f, o, ho, hl, hr, hf⟩ := h
  have h1 := hr.cc
  go_enter Try.func19, Try.ntmps19
  go_wp2
  go_ret
  exact ⟨rfl, rfl⟩
set_option maxHeartbeats 1000000 in
theorem first_any (b : Nat) (l : List Smp) (k now : Int) (w : World) (h : Rl w b l k now) :
    Calls Try.prog 21 #[.pointer (some ⟨b, 0, none⟩)] w fun e w' => e = .returned (.tuple #[sv (l.getD 0 s0), .bool (!l.isEmpty)]) ∧ Below w.heap.size w w' := by
  obtain ⟨f, o, ho, hl, hr, hf⟩ := h
  have hb1 := bal (Below.refl _ w) (.cells #[.int .i64 0, .bool false, .int .i64 0] 38)
  have h1 := (hr.later hb1).cc
  have hs := sample_any b f o l.length k now 0 _ (hr.later hb1) ho (by omega)
  cases l with
  | nil =>
    clear hs hf
    go_enter Try.func21, Try.ntmps21
    go_wp2
    exact bodyPost_ret (v := .tuple #[sv s0, .bool false]) (by simp [results, Try.results21, go_sem, s0]) rfl ⟨rfl, bal (Below.refl _ _) _⟩
  | cons s l =>
    rw [hf 0 (by simp)] at hs
    have e0 : (s :: l).getD 0 s0 = s := rfl
    rw [e0] at hs ⊢
    have h2 : (((s :: l).length : Int) == 0) = false := by simp; omega
    have hx := BoxS.new w s0
    generalize (s :: l).length = c at *
    clear hf
    go_enter Try.func21, Try.ntmps21
    go_wp2_with fail
    refine hs.mono ?_
    rintro e w1 ⟨rfl, hb2⟩
    have hx2 := hx.later hb2
    obtain ⟨c0, c1, c2, f0, f1, f2⟩ := id hx2
    obtain ⟨d0, d1, d2, _, _, _⟩ := hx2.put s
    go_wp2
    exact bodyPost_ret (v := .tuple #[sv s, .bool true]) (by simp [results, Try.results21, go_sem, d0, d1, d2]) rfl ⟨rfl, below3 (Below.chain hb1 hb2) (Nat.le_refl _) 0 s⟩
theorem at_mono (l : List Smp) (b : Nat) (f : Nat → Smp) (o : Nat) (k now : Int) (i : Nat) (w : World) (hr : Rg w b f o l.length k now) (ho : o < 100) (hl : l.length ≤ 100) (hf : ∀ i, i < l.length → f ((o + i) % 100) = l.getD i s0) (hi : i < l.length) :
    Calls Try.prog 33 #[.pointer (some ⟨b, 0, none⟩), .int .i64 i] w fun e w' => e = .returned (sv (l.getD i s0)) ∧ Below w.heap.size w w' := by
  have h := sample_any b f o l.length k now i w hr ho (by omega)
  rw [hf i hi] at h
  exact h
theorem at_any (b : Nat) (l : List Smp) (k now : Int) (i : Nat) (w : World) (h : Rl w b l k now) (hi : i < l.length) :
    Calls Try.prog 33 #[.pointer (some ⟨b, 0, none⟩), .int .i64 i] w fun e w' => e = .returned (sv (l.getD i s0)) ∧ Below w.heap.size w w' := by
  obtain ⟨f, o, ho, hl, hr, hf⟩ := h
  exact at_mono l b f o k now i w hr ho hl hf hi
set_option maxHeartbeats 1000000 in
theorem last_any (b : Nat) (l : List Smp) (k now : Int) (w : World) (h : Rl w b l k now) :
    Calls Try.prog 24 #[.pointer (some ⟨b, 0, none⟩)] w fun e w' => e = .returned (.tuple #[sv (lst l), .bool (!l.isEmpty)]) ∧ Below w.heap.size w w' := by
  have hb1 := bal (Below.refl _ w) (.cells #[.int .i64 0, .bool false, .int .i64 0] 38)
  have hR := h.later hb1
  obtain ⟨f, o, ho, hl, hr, hf⟩ := h
  have h1 := (hr.later hb1).cc
  cases hle : l with
  | nil =>
    subst hle
    clear hf
    go_enter Try.func24, Try.ntmps24
    go_wp2
    exact bodyPost_ret (v := .tuple #[sv s0, .bool false]) (by simp [results, Try.results24, go_sem, s0]) rfl ⟨rfl, bal (Below.refl _ _) _⟩
  | cons y ys =>
    rw [← hle]
    have hp : l.length = ys.length + 1 := by rw [hle]; rfl
    have hs := at_any b l k now (l.length - 1) _ hR (by omega)
    have he : l.isEmpty = false := by rw [hle]; rfl
    rw [he]
    rw [hp] at h1
    have e2 : l.length - 1 = ys.length := by omega
    rw [e2] at hs
    have HL : Hid (l.getD ys.length s0 = lst l) := by show _ = _; unfold lst; rw [e2]
    rw [HL.out] at hs
    have hm : ys.length < 100 := by omega
    have h2 : (((ys.length + 1 : Nat) : Int) == 0) = false := by simp; omega
    have e3 : wrap64 ((ys.length + 1 : Nat) - 1 : Int) = (ys.length : Int) := by unfold wrap64; omega
    have hx := BoxS.new w s0
    generalize ys.length = m at *
    generalize lst l = s at *
    clear hf hR hr he hle hp e2
    have e4 : wrap64 (m : Int) = (m : Int) := by unfold wrap64; omega
    go_enter Try.func24, Try.ntmps24
    go_wp2_with fail
    refine hs.mono ?_
    rintro e w1 ⟨rfl, hb2⟩
    have hx2 := hx.later hb2
    obtain ⟨c0, c1, c2, f0, f1, f2⟩ := id hx2
    obtain ⟨d0, d1, d2, _, _, _⟩ := hx2.put s
    go_wp2
    exact bodyPost_ret (v := .tuple #[sv s, .bool true]) (by simp [results, Try.results24, go_sem, d0, d1, d2]) rfl ⟨rfl, below3 (Below.chain hb1 hb2) (Nat.le_refl _) 0 s⟩
set_option maxHeartbeats 1000000 in
theorem push_rg (b : Nat) (f : Nat → Smp) (o c : Nat) (k now : Int) (s : Smp) (w : World) (hr : Rg w b f o c k now) (ho : o < 100) (hl : c < 100) :
    Calls Try.prog 27 #[.pointer (some ⟨b, 0, none⟩), sv s] w fun e w' => e = .returned (.tuple #[]) ∧ Rg w' b (fun j => if j = (o + c) % 100 then s else f j) o (c + 1) k now ∧ w.grownBy w' (some b) := by
  have hb1 := bal (Below.refl _ w) (.cells #[.int .i64 s.1, .bool s.2.1, .int .i64 s.2.2] 38)
  have hr1 := hr.later hb1
  have hbn : b ≠ w.heap.size := by have := hr.lt; omega
  have hx := BoxS.new w s
  have hpl := place_any b f o c k now c
  have hx1 : (o + c) % 100 < 100 := by omega
  generalize (o + c) % 100 = x at *
  clear hr
  go_enter Try.func27, Try.ntmps27
  go_wp2_with fail
  generalize w.alloc (.cells #[.int .i64 s.1, .bool s.2.1, .int .i64 s.2.2] 38) = wa at *
  have hr2 : Rg wa.drew b f o c k now := hr1.later (Below.refl _ _).drew
  have h1 := hr1.cc
  have hc0 := hr1.ct x hx1
  have hc1 := hr1.cv x hx1
  have hc2 := hr1.cn x hx1
  have g0 := hr1.fz (x * 3) (by omega)
  have g1 := hr1.fz (x * 3 + 1) (by omega)
  have g2 := hr1.fz (x * 3 + 2) (by omega)
  obtain ⟨d0, d1, d2, _, _, _⟩ := id hx
  go_region_with (go_at_call 38; refine (hpl _ hr2 ho (by omega)).mono ?_; rintro e w' ⟨rfl, rfl⟩)
  all_goals
    have hr3 : Rg (set3 wa b (x * 3) s).drew b (fun j => if j = x then s else f j) o c k now := (hr1.put hx1 s).later (Below.refl _ _).drew
    have hg3 : w.grownBy (set3 wa b (x * 3) s).drew (some b) := ((grown_below hb1 (some b)).trans (grown3 wa b (x * 3) s)).trans (grown_below (Below.refl _ _).drew (some b))
    change Exit.then _ _ Exit.normal _ (set3 wa b (x * 3) s).drew
    generalize (set3 wa b (x * 3) s).drew = wb at *
    have i1 := hr3.cc
    have i2 := hr3.fz 301 (by omega)
    have e1 : wrap64 ((c : Int) + 1) = ((c + 1 : Nat) : Int) := by unfold wrap64; omega
    go_wp2
    go_end0
    exact ⟨rfl, hr3.setC (c + 1), hg3.trans (grown_set _ _ _ _)⟩
theorem push_any (b : Nat) (l : List Smp) (k now : Int) (s : Smp) (w : World) (h : Rl w b l k now) (hl : l.length < 100) :
    Calls Try.prog 27 #[.pointer (some ⟨b, 0, none⟩), sv s] w fun e w' => e = .returned (.tuple #[]) ∧ Rl w' b (l ++ [s]) k now ∧ w.grownBy w' (some b) := by
  obtain ⟨f, o, ho, _, hr, hf⟩ := h
  exact (push_rg b f o l.length k now s w hr ho hl).mono fun e w' ⟨h1, h2, h3⟩ => ⟨h1, Rl.push ho hl hf h2, h3⟩

theorem field_t (t : Int) (o : Bool) (n : Int) (w : World) : (Instr.field 38 (.agg #[.int .i64 t, .bool o, .int .i64 n]) 0).run Try.prog w = .ok (.int .i64 t) w := by kernel_rfl
theorem field_v (t : Int) (o : Bool) (n : Int) (w : World) : (Instr.field 38 (.agg #[.int .i64 t, .bool o, .int .i64 n]) 1).run Try.prog w = .ok (.agg #[.bool o, .int .i64 n]) w := by kernel_rfl
/-- How many a window in memory holds. -/
def cntW (w : World) (b : Nat) : Nat := match w.cell? ⟨b, 301, none⟩ with
  | some (.int _ i) => i.toNat
  | _ => 0
theorem Rg.cnt {w : World} {b : Nat} {f : Nat → Smp} {o c : Nat} {k now : Int} (h : Rg w b f o c k now) : cntW w b = c := by
  unfold cntW
  rw [h.cc]
  rfl
set_option maxHeartbeats 1000000 in
theorem forget_any (b : Nat) (l : List Smp) (k now : Int) (t : Int) (w : World) (h : Rl w b l k now) :
    Calls Try.prog 25 #[.pointer (some ⟨b, 0, none⟩), .int .i64 t] w fun e w' => e = .returned (.tuple #[]) ∧ Rl w' b (fg t l) k now ∧ w.grownBy w' (some b) := by
  have hfd := field_t
  go_enter Try.func25, Try.ntmps25
  go_wp2_with fail
  go_loopw [] (fun wr => ∃ r, Rl wr b r k now ∧ fg t r = fg t l ∧ w.grownBy wr (some b)) (fun wr => cntW wr b)
  case atStart => exact ⟨l, h, rfl, grown_below (Below.refl _ _) _⟩
  case round =>
    obtain ⟨r, hrl, hfg, hg⟩ := hrel
    obtain ⟨f, o, ho, hl, hr, hf⟩ := hrl
    have HG : Hid _ := hfg
    clear hfg
    have i1 := hr.cc
    cases r with
    | nil =>
      go_wp2
      go_end0
      exact ⟨rfl, by rw [← HG.out]; exact ⟨f, o, ho, hl, hr, hf⟩, hg⟩
    | cons s r =>
      have hm := hr.cnt
      have hs := at_mono (s :: r) b f o k now 0 wr hr ho hl hf (by simp)
      have e0 : (s :: r).getD 0 s0 = s := rfl
      rw [e0] at hs
      have hl' : r.length + 1 ≤ 100 := hl
      have HF : Hid (∀ i, i < r.length + 1 → f ((o + i) % 100) = (s :: r).getD i s0) := hf
      clear hf hl e0
      have hr' : Rg wr b f o (r.length + 1) k now := hr
      have hm' : cntW wr b = r.length + 1 := hm
      clear i1 hr hm
      generalize hmm : r.length = m at *
      have HM : Hid _ := hmm
      clear hmm
      have i1' : wr.cell? ⟨b, 301, none⟩ = some (.int .i64 ((m : Int) + 1)) := hr'.cc
      have h2 : decide ((0 : Int) < (m : Int) + 1) = true := decide_eq_true (by omega)
      by_cases ht : s.1 ≤ t
      · have ht' : decide (s.1 ≤ t) = true := decide_eq_true ht
        have HN : Hid (fg t r = fg t l) := by rw [← HG.out]; show fg t r = if s.1 ≤ t then fg t r else s :: r; rw [if_pos ht]
        clear HG ht
        go_wp2_with fail
        refine hs.mono ?_
        rintro e w1 ⟨rfl, hb1⟩
        have hr1 := hr'.later hb1
        go_wp2_with fail
        have e1 : wrap64 ((m : Int) + 1 - 1) = (m : Int) := by unfold wrap64; omega
        have e2 : wrap64 (m : Int) = (m : Int) := by unfold wrap64; omega
        have hpl := place_any b f o (m + 1) k now 1 w1 hr1 ho (by omega)
        have hx : (o + 1) % 100 < 100 := by omega
        generalize hxx : (o + 1) % 100 = x at *
        have HX : Hid _ := hxx
        clear hxx
        refine hpl.mono ?_
        rintro e w2 ⟨rfl, rfl⟩
        have hr2 := hr1.setO x
        have hg2 := (hg.trans (grown_below hb1 (some b))).trans (grown_set w1 b 300 (.int .i64 x))
        have j0 := hr1.co
        have j1 : w1.cell? ⟨b, 301, none⟩ = some (.int .i64 ((m : Int) + 1)) := hr1.cc
        have j2 := hr1.fz 300 (by omega)
        have j3 := hr1.fz 301 (by omega)
        have j4 : (w1.setCell ⟨b, 300, none⟩ (.int .i64 x)).cell? ⟨b, 301, none⟩ = some (.int .i64 ((m : Int) + 1)) := hr2.cc
        go_wp2
        go_roundw
        case rel => exact ⟨r, Rl.pop (by rw [HM.out]; exact hl') (by rw [HM.out]; exact HF.out) (by rw [HX.out, HM.out]; exact hr2.setC m), HN.out, hg2.trans (grown_set _ _ _ _)⟩
        case measure =>
          rw [(hr2.setC m).cnt, hm']
          omega
      · have ht' : decide (s.1 ≤ t) = false := decide_eq_false ht
        have HN : Hid (s :: r = fg t l) := by rw [← HG.out]; show s :: r = if s.1 ≤ t then fg t r else s :: r; rw [if_neg ht]
        clear HG ht
        go_wp2_with fail
        refine hs.mono ?_
        rintro e w1 ⟨rfl, hb1⟩
        go_wp2
        go_end0
        exact ⟨rfl, by rw [← HN.out]; exact ⟨f, o, ho, by show r.length + 1 ≤ 100; rw [HM.out]; exact hl', by show Rg _ b f o (r.length + 1) k now; rw [HM.out]; exact hr'.later hb1, by show ∀ i, i < r.length + 1 → _; rw [HM.out]; exact HF.out⟩, hg.trans (grown_below hb1 _)⟩
end Go.Proofs.Ytchopogodfghoaa
