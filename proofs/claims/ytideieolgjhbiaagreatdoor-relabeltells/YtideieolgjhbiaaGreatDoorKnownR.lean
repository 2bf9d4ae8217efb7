/- known: what every law asks first: true. -/
import Derived.Test.YtideieolgjhbiaaGreatDoorRuleE
namespace Go.Proofs.YtideieolgjhbiaaGreatDoor
open Go.RowKit

theorem Rs.one (w : World) (r : Rl) : Rs (w.alloc (.cells #[.int .i64 r.act, tx r.frm.name, .int .i64 r.frm.kind, tx r.frm.text, tx r.tgt, tx r.txt] 35)) (some ⟨w.heap.size, 0, none⟩) 1 [r] := by
  refine ⟨rfl, fun _ => ⟨_, 0, rfl, fun j hj => ?_⟩⟩
  obtain rfl : j = 0 := by omega
  refine ⟨?_, ?_, ?_, ?_, ?_, ?_⟩ <;> simp [go_sem]
theorem big_lit {s : Str} (h : s.length ≤ 1000) : Big s := by unfold Big; omega
theorem fitRs_one {r : Rl} (h : FitR r) : FitRs [r] := fun q hq => by rw [List.mem_singleton.1 hq]; exact h
def kL : List Pr := [(nm, [117, 112]), ([106, 111, 98], [97])]
def kM : Mat := ⟨[106, 111, 98], 1, [97]⟩
def k1 : Rl := ⟨3, kM, [116, 111], [105, 115, 45, 36]⟩
def k2 : Rl := ⟨2, kM, [], []⟩
def k3 : Rl := ⟨1, kM, [], []⟩
theorem k_one : fApply kL [k1] = (kL ++ [([116, 111], [105, 115, 45, 97])], true, 0) := by decide +kernel
theorem k_two : fApply kL [k2] = ([], false, 0) := by decide +kernel
theorem k_none : fApply kL [rl0] = ([], false, 12) := by decide +kernel
theorem k_get : fGet (kL ++ [([116, 111], [105, 115, 45, 97])]) [116, 111] = [105, 115, 45, 97] := by decide +kernel
theorem k_text : fPrintR k3 = [107, 101, 101, 112, 32, 106, 111, 98, 32, 61, 32, 34, 97, 34] := by decide +kernel
theorem fit_k (a : Int) (m : Mat) (t u : Str) (h1 : m.name.length ≤ 1000) (h2 : m.text.length ≤ 1000) (h3 : t.length ≤ 1000) (h4 : u.length ≤ 1000) : FitR ⟨a, m, t, u⟩ := ⟨big_lit h1, big_lit h2, big_lit h3, big_lit h4⟩
theorem fit_kL : Fit kL := Fit.small (by decide)

set_option maxRecDepth 100000 in
set_option maxHeartbeats 4000000 in
theorem known_any (w : World) (hm : Mx w) : Calls Tryz.prog 8 #[] w fun e w' => e = .returned (.bool true) ∧ Below w.heap.size w w' := by
  have hap := fun (W : World) (r : Rl) (hr : FitR r) (hW : Below w.heap.size w W) (hp : Ps W (some ⟨w.heap.size, 0, none⟩) 2 kL) =>
    apply_any (some ⟨w.heap.size, 0, none⟩) 2 2 kL _ 1 1 [r] _ (by omega) (by omega) fit_kL (fitRs_one hr) (hp.later (bal (Below.refl _ W) (.cells #[.int .i64 r.act, tx r.frm.name, .int .i64 r.frm.kind, tx r.frm.text, tx r.tgt, tx r.txt] 35))) (Rs.one W r) (hm.later (bal hW _))
  have ha2 := fun W hW hp => hap W k2 (fit_k _ _ _ _ (by decide) (by decide) (by decide) (by decide)) hW hp
  have ha3 := fun W hW hp => hap W rl0 (fit_k _ _ _ _ (by decide) (by decide) (by decide) (by decide)) hW hp
  have hget := fun (W : World) (ao : Option Addr) (c : Nat) (hp : Ps W ao 3 (kL ++ [([116, 111], [105, 115, 45, 97])])) => get_any ao 3 c _ [116, 111] W (by omega) hp
  have hpr := fun W (h : Mx W) => printR_any k3 W (fit_k _ _ _ _ (by decide) (by decide) (by decide) (by decide)) h
  rw [k_text] at hpr
  rw [k_get] at hget
  rw [k_two] at ha2
  rw [k_none] at ha3
  have hsz : ((w.alloc (.cells #[tx nm, tx [117, 112], tx [106, 111, 98], tx [97]] 44)).alloc (.cells #[tx [106, 111, 98], .int .i64 1, tx [97]] 33)).heap.size = w.heap.size + 2 := by simp [go_sem]
  have hbA := bal (Below.refl _ w) (.cells #[tx nm, tx [117, 112], tx [106, 111, 98], tx [97]] 44)
  have hbB := bal hbA (.cells #[tx [106, 111, 98], .int .i64 1, tx [97]] 33)
  have hpB : Ps ((w.alloc (.cells #[tx nm, tx [117, 112], tx [106, 111, 98], tx [97]] 44)).alloc (.cells #[tx [106, 111, 98], .int .i64 1, tx [97]] 33)) (some ⟨w.heap.size, 0, none⟩) 2 kL := (Ps.two w (nm, [117, 112]) ([106, 111, 98], [97])).later (bal (Below.refl _ _) _)
  have ha1 := hap _ k1 (fit_k _ _ _ _ (by decide) (by decide) (by decide) (by decide)) hbB hpB
  rw [hsz, k_one] at ha1
  have c0 : ((w.alloc (.cells #[tx nm, tx [117, 112], tx [106, 111, 98], tx [97]] 44)).alloc (.cells #[tx [106, 111, 98], .int .i64 1, tx [97]] 33)).cell? ⟨w.heap.size + 1, 0, none⟩ = some (tx [106, 111, 98]) := by simp [go_sem]
  have c1 : ((w.alloc (.cells #[tx nm, tx [117, 112], tx [106, 111, 98], tx [97]] 44)).alloc (.cells #[tx [106, 111, 98], .int .i64 1, tx [97]] 33)).cell? ⟨w.heap.size + 1, 1, none⟩ = some (.int .i64 1) := by simp [go_sem]
  have c2 : ((w.alloc (.cells #[tx nm, tx [117, 112], tx [106, 111, 98], tx [97]] 44)).alloc (.cells #[tx [106, 111, 98], .int .i64 1, tx [97]] 33)).cell? ⟨w.heap.size + 1, 2, none⟩ = some (tx [97]) := by simp [go_sem]
  clear hap hsz
  go_enter Tryz.func8, Tryz.ntmps8
  go_wp2_with fail
  refine ha1.mono ?_
  rintro e w1 ⟨ao1, N1, cap1, rfl, hps1, hb1⟩
  have B0 := bal (Below.refl _ ((w.alloc (.cells #[tx nm, tx [117, 112], tx [106, 111, 98], tx [97]] 44)).alloc (.cells #[tx [106, 111, 98], .int .i64 1, tx [97]] 33))) (.cells #[.int .i64 k1.act, tx k1.frm.name, .int .i64 k1.frm.kind, tx k1.frm.text, tx k1.tgt, tx k1.txt] 35)
  have B01 := Below.chain B0 hb1
  have B1 := Below.chain hbB B01
  have d0 := cell_later c0 B01
  have d1 := cell_later c1 B01
  have d2 := cell_later c2 B01
  have hp1 := hpB.later B01
  obtain rfl : N1 = 3 := hps1.1.symm
  clear ha1 hpB c0 c1 c2 hbB hbA hb1 B0 B01
  go_wp2_with fail
  refine (ha2 w1 B1 hp1).mono ?_
  rintro e w2 ⟨ao2, N2, cap2, rfl, hps2, hb2⟩
  have B12 := Below.chain (bal (Below.refl _ w1) (.cells #[.int .i64 k2.act, tx k2.frm.name, .int .i64 k2.frm.kind, tx k2.frm.text, tx k2.tgt, tx k2.txt] 35)) hb2
  have B2 := Below.chain B1 B12
  have e0 := cell_later d0 B12
  have e1 := cell_later d1 B12
  have e2 := cell_later d2 B12
  have hp2 := hp1.later B12
  have hq2 := hps1.later B12
  clear d0 d1 d2 hp1 hps1 B12 hb2 hps2 ha2
  go_wp2_with fail
  refine (ha3 w2 B2 hp2).mono ?_
  rintro e w3 ⟨ao3, N3, cap3, rfl, hps3, hb3⟩
  have B23 := Below.chain (bal (Below.refl _ w2) (.cells #[.int .i64 rl0.act, tx rl0.frm.name, .int .i64 rl0.frm.kind, tx rl0.frm.text, tx rl0.tgt, tx rl0.txt] 35)) hb3
  have B3 := Below.chain B2 B23
  have f0 := cell_later e0 B23
  have f1 := cell_later e1 B23
  have f2 := cell_later e2 B23
  have hq3 := hq2.later B23
  clear e0 e1 e2 hp2 hq2 B23 hb3 hps3 ha3
  go_wp2_with fail
  refine (hget w3 ao1 cap1 hq3).mono ?_
  rintro e w4 ⟨rfl, hb4⟩
  have B4 := Below.chain B3 hb4
  have g0 := cell_later f0 hb4
  have g1 := cell_later f1 hb4
  have g2 := cell_later f2 hb4
  go_wp2_with fail
  refine (hpr w4 (hm.later B4)).mono ?_
  rintro e w5 ⟨rfl, hb5⟩
  go_wp2_with fail
  go_ret
  exact ⟨rfl, Below.chain B4 hb5⟩
end Go.Proofs.YtideieolgjhbiaaGreatDoor
