/- RingPlays: the walk. -/
import Derived.Test.YtchopogodfghoaaRAl1
import Derived.Test.YtchopogodfghoaaRAl2
import Derived.Test.YtchopogodfghoaaRMaddA
import Derived.Test.YtchopogodfghoaaRStep
import Derived.Test.YtchopogodfghoaaScale
namespace Go.Proofs.Ytchopogodfghoaa
open Go.RowKit

theorem alike_all (b : Nat) (ao : Option Addr) (n cap : Nat) (l : List Smp) (k now : Int) (w : World) (h : St w b l k now) (hs : Ms w ao n l) :
    Calls Try.prog 14 #[.pointer (some ⟨b, 0, none⟩), .slice ao n cap] w fun e w' => e = .returned (.bool true) ∧ Below w.heap.size w w' := by
  rcases (by omega : n = 0 ∨ n = 1 ∨ 2 ≤ n) with e | e | e
  · exact alike_nil b ao n cap l k now w h hs (List.length_eq_zero_iff.1 (by rw [hs.1, e]))
  · exact alike_one b ao n cap l k now w h hs e
  · exact alike_two b ao n cap l k now w h hs e
theorem nadd (i : Nat) (h : i < 160) : wrap64 ((i : Int) + 1) = (i : Int) + 1 := wf64 (by omega) (by omega)
theorem meas (i n : Nat) (h : i < n) : n - (intOf (.int .i64 ((i : Int) + 1))).toNat < n - (intOf (.int .i64 (i : Int))).toNat := by simp [intOf]; omega
theorem Md.new (w : World) (k : Int) : Md (w.alloc (.cells #[.int .i64 k, .int .i64 0, .int .i64 (-1), .slice none 0 0] 29)) w.heap.size k 0 (-1) (.slice none 0 0) := by
  constructor <;> simp
set_option maxRecDepth 20000 in
set_option maxHeartbeats 16000000 in
theorem plays_any (K : Int) (ao : Option Addr) (n cap : Nat) (l : List Stp) (w : World) (_hK : -9223372036854775808 ≤ K ∧ K ≤ 9223372036854775807) (_hm : n ≤ maxLen) (hs : Ss w ao n l) (hl : FitS l) :
    Calls Try.prog 3 #[.int .i64 K, .slice ao n cap] w fun e w' => e = .returned (.bool true) ∧ Below w.heap.size w w' := by
  by_cases hn : n ≤ 150
  · have hdn : decide ((150 : Int) < (n : Int)) = false := decide_eq_false (by omega)
    obtain ⟨k, hk⟩ : ∃ k : Int, k = clamp K := ⟨_, rfl⟩
    obtain ⟨hla, hca⟩ := hs
    have HLR : Hid (∀ q, q < n → R64 (l.getD q st0).2.1 ∧ R64 (l.getD q st0).2.2.2) := fun q hq => hl _ (getD_memT (by rw [hla]; exact hq))
    have HCa : Hid (0 < n → ∃ b off, ao = some ⟨b, off, none⟩ ∧ ∀ j, j < n → ∀ W, Below w.heap.size w W → W.cell? ⟨b, off + j * 4, none⟩ = some (.bool (l.getD j st0).1) ∧ W.cell? ⟨b, off + j * 4 + 1, none⟩ = some (.int .i64 (l.getD j st0).2.1) ∧ W.cell? ⟨b, off + j * 4 + 2, none⟩ = some (.bool (l.getD j st0).2.2.1) ∧ W.cell? ⟨b, off + j * 4 + 3, none⟩ = some (.int .i64 (l.getD j st0).2.2.2)) := fun hp => by
      obtain ⟨b, off, e, hc⟩ := hca hp
      exact ⟨b, off, e, fun j hj W hW => by
        obtain ⟨c0, c1, c2, c3⟩ := hc j hj
        exact ⟨(hW.cell (World.block_lt_of_cell? _ _ c0)).trans c0, (hW.cell (World.block_lt_of_cell? _ _ c1)).trans c1, (hW.cell (World.block_lt_of_cell? _ _ c2)).trans c2, (hW.cell (World.block_lt_of_cell? _ _ c3)).trans c3⟩⟩
    clear hla hca hl
    go_enter Try.func3, Try.ntmps3
    go_wp2_with fail
    refine (known_any _).mono ?_
    rintro e w1 ⟨rfl, hb1⟩
    go_wp2_with fail
    refine (new_st K _).mono ?_
    rw [← hk]
    rintro e w2 ⟨rfl, hs2, hb2⟩
    have hq := bal (Below.refl _ w2) (.cells #[.int .i64 k, .int .i64 0, .int .i64 (-1), .slice none 0 0] 29)
    have hs3 := hs2.later hq
    have hB1 : w.heap.size ≤ w1.heap.size := hb1.size
    have hB2 : w.heap.size ≤ w2.heap.size := (Below.chain hb1 hb2).size
    have hne : w1.heap.size ≠ w2.heap.size := by have := hs2.m.lt; omega
    have HNE : Hid (w1.heap.size ≠ w2.heap.size) := hne
    have hb4 := Below.chain (Below.chain hb1 hb2) hq
    have hM := Md.new w2 k
    clear hs2 hq hne
    have HCl : Hid (max 1 (min K 100) = k) := by show _ = _; rw [hk]; exact clamp_eq K
    clear hb1 hb2 hk
    generalize w1.heap.size = b at *
    go_wp2_with fail
    rw [HCl.out]
    clear HCl
    generalize w2.alloc (.cells #[.int .i64 k, .int .i64 0, .int .i64 (-1), .slice none 0 0] 29) = w3 at *
    generalize w2.heap.size = mb at *
    go_loopw [7] (fun t wr => ∃ (i : Nat) (nw la : Int) (a2 : Option Addr) (n2 c2 : Nat) (L : List Smp), i ≤ n ∧ t = .int .i64 i ∧ St wr b L k nw ∧ Md wr mb k nw la (.slice a2 n2 c2) ∧ Ml wr mb b a2 n2 c2 L ∧ Pv la L k nw ∧ Below w.heap.size w wr) (fun t _ => n - (intOf t).toNat)
    case atStart => exact ⟨0, 0, -1, none, 0, 0, [], by omega, rfl, hs3, hM, ⟨Ms.nil _ _, Nat.le_refl _, fun _ => ⟨rfl, rfl⟩, (fun a e => by cases e)⟩, ⟨fun h => absurd rfl h, fun _ => Or.inr (by decide), (fun s hs => by cases hs), by decide⟩, hb4⟩
    case round =>
      clear hs3 hM hb4
      obtain ⟨i, nw, la, a2, n2, c2, L, hi2, rfl, s1, md, ml, pv, hb⟩ := hrel
      by_cases hlt : i < n
      · have hd : decide ((i : Int) < (n : Int)) = true := decide_eq_true (by omega)
        obtain ⟨bb, oo, rfl, hcell⟩ := HCa.out (by omega)
        have HU : Hid _ := hcell i hlt
        obtain ⟨u0w, u1w, u2w, u3w⟩ := hcell i hlt _ hb
        obtain ⟨hrT, hrV⟩ := HLR.out i hlt
        have HLT : Hid (i < n) := hlt
        have en : Hid (wrap64 ((i : Int) + 1) = (i : Int) + 1) := nadd i (by omega)
        clear hcell
        generalize hlq : l.getD i st0 = stp at *
        clear hlq
        obtain ⟨tm, T, vo, vn⟩ := stp
        dsimp only at *
        cases tm with
        | true =>
          have a1 := adv_st b L k nw T wr s1
          have hwf := s1.f
          have av := fun W h1 h2 => madv_any mb b k nw la T a2 n2 c2 L W h1 h2 hwf
          have pv5 := pv.adv hwf T
          generalize fg (onw nw T - k) L = L' at *
          generalize onw nw T = nw' at *
          have HWF : Hid _ := hwf
          clear hwf pv s1
          go_wp2_with fail
          refine a1.mono ?_
          rintro e w4 ⟨rfl, s14, hg⟩
          have md4 := md.kept hg (by simp; exact HNE.out.symm)
          have ml4 := ml.kept hg (Or.inr (Or.inr rfl))
          have hb4 := grown_above hb hg hb.size hB1
          have u14 : w4.cell? ⟨bb, oo + i * 4 + 1, none⟩ = some (Value.int .i64 T) := (HU.out w4 hb4).2.1
          clear a1 md ml hb hg u0w u1w u2w u3w
          go_wp2_with fail
          refine (av _ md4 ml4).mono ?_
          rintro e w5 ⟨rfl, ⟨a5, n5, c5, md5, ml5⟩, hg⟩
          have s15 := s14.kept hg (by simp; exact HNE.out)
          have hb5 := grown_above hb4 hg hb4.size hB2
          clear av s14 md4 ml4 hb4 hg u14
          obtain ⟨m0, m1, m2, m3, _, _, _⟩ := id md5
          go_wp2_with fail
          refine (alike_all b a5 n5 c5 L' k nw' _ s15 ml5.s).mono ?_
          rintro e w6 ⟨rfl, hb6⟩
          clear hn hi2 hB1 hB2 hdn hd m0 m1 m2 m3 hlt
          go_wp2_with fail
          go_roundw
          case rel => exact ⟨i + 1, nw', _, a5, n5, c5, L', HLT.out, by rw [en.out]; rfl, s15.later hb6, md5.later hb6, ml5.later hb6, pv5, Below.chain hb5 hb6⟩
          case measure => rw [en.out]; exact meas i n HLT.out
        | false =>
          have hwf := s1.f
          have a1 : ∀ W, St W b L k nw → Calls Try.prog 12 #[.pointer (some ⟨b, 0, none⟩), .agg #[.int .i64 T, .bool vo, .int .i64 vn]] W fun e w' => e = .returned (.int .i64 (adE L k nw T)) ∧ St w' b (adL L k nw (T, vo, vn)) k nw ∧ W.grownBy w' (some b) := fun W hW => add_st b L k nw (T, vo, vn) W hW hrV
          have av : ∀ W, Md W mb k nw la (.slice a2 n2 c2) → Ml W mb b a2 n2 c2 L → b < W.heap.size → Calls Try.prog 13 #[.pointer (some ⟨mb, 0, none⟩), .agg #[.int .i64 T, .bool vo, .int .i64 vn]] W fun e w' => e = .returned (.int .i64 (adE L k nw T)) ∧ (∃ last' ao' len' cap', Md w' mb k nw last' (.slice ao' len' cap') ∧ Ml w' mb b ao' len' cap' (adL L k nw (T, vo, vn)) ∧ Pv last' (adL L k nw (T, vo, vn)) k nw) ∧ W.grownBy w' (some mb) := fun W h1 h2 h3 => madd_all mb b k nw la a2 n2 c2 L (T, vo, vn) W h1 h2 h3 hwf pv hrV
          clear hwf
          generalize adE L k nw T = er at *
          generalize adL L k nw (T, vo, vn) = L' at *
          have s1d := s1.later (Below.refl _ wr).drew
          have mdd := md.later (Below.refl _ wr).drew
          have mld := ml.later (Below.refl _ wr).drew
          have hbd : Below w.heap.size w wr.drew := hb.trans (Below.refl _ _).drew
          clear s1 md ml hb pv
          go_wp2_with fail
          have hS0 : (fun W : World => W.cell? ⟨bb, oo + i * 4 + 1, none⟩ = some (Value.int .i64 T) ∧ W.cell? ⟨bb, oo + i * 4 + 2, none⟩ = some (Value.bool vo) ∧ W.cell? ⟨bb, oo + i * 4 + 3, none⟩ = some (Value.int .i64 vn)) _ := ⟨u1w, u2w, u3w⟩
          refine wp_region_noPanic ?_
          refine wp_region_held_drew (S := fun W : World => W.cell? ⟨bb, oo + i * 4 + 1, none⟩ = some (Value.int .i64 T) ∧ W.cell? ⟨bb, oo + i * 4 + 2, none⟩ = some (Value.bool vo) ∧ W.cell? ⟨bb, oo + i * 4 + 3, none⟩ = some (Value.int .i64 vn)) (by kernel_rfl) hS0 (fun _ => ?_)
          refine take_at 0 (some 45) (.pointer (some ⟨b, 0, none⟩)) rfl rfl (by kernel_rfl) (by kernel_rfl) (by kernel_rfl) (fun _ _ _ h => h) (by rfl) (fun W hSw => by obtain ⟨q0, q1, q2⟩ := hSw; go_simp) hS0 ?_
          simp only [Act.put, List.setIfInBounds_toArray, List.set_cons_zero, List.set_cons_succ]
          refine take_at 1 (some 46) (.slice (some ⟨bb, oo, none⟩) n cap) rfl rfl (by kernel_rfl) (by kernel_rfl) (by kernel_rfl) (fun _ _ _ h => h) (by rfl) (fun W hSw => by obtain ⟨q0, q1, q2⟩ := hSw; go_simp) hS0 ?_
          simp only [Act.put, List.setIfInBounds_toArray, List.set_cons_zero, List.set_cons_succ]
          refine take_at 2 (some 47) (.int .i64 i) rfl rfl (by kernel_rfl) (by kernel_rfl) (by kernel_rfl) (fun _ _ _ h => h) (by rfl) (fun W hSw => by obtain ⟨q0, q1, q2⟩ := hSw; go_simp) hS0 ?_
          simp only [Act.put, List.setIfInBounds_toArray, List.set_cons_zero, List.set_cons_succ]
          refine take_at 3 (some 48) (.pointer (some ⟨bb, oo + i * 4, none⟩)) rfl rfl (by kernel_rfl) (by kernel_rfl) (by kernel_rfl) (fun _ _ _ h => h) (by rfl) (fun W hSw => by obtain ⟨q0, q1, q2⟩ := hSw; go_simp; try (intro hh; exfalso; omega)) hS0 ?_
          simp only [Act.put, List.setIfInBounds_toArray, List.set_cons_zero, List.set_cons_succ]
          refine take_at 4 (some 49) (.pointer (some ⟨bb, oo + i * 4 + 1, none⟩)) rfl rfl (by kernel_rfl) (by kernel_rfl) (by kernel_rfl) (fun _ _ _ h => h) (by rfl) (fun W hSw => by obtain ⟨q0, q1, q2⟩ := hSw; go_simp) hS0 ?_
          simp only [Act.put, List.setIfInBounds_toArray, List.set_cons_zero, List.set_cons_succ]
          refine take_at 5 (some 50) (.int .i64 T) rfl rfl (by kernel_rfl) (by kernel_rfl) (by kernel_rfl) (fun _ _ _ h => h) (by rfl) (fun W hSw => by obtain ⟨q0, q1, q2⟩ := hSw; go_simp) hS0 ?_
          simp only [Act.put, List.setIfInBounds_toArray, List.set_cons_zero, List.set_cons_succ]
          refine take_at 6 (some 51) (.slice (some ⟨bb, oo, none⟩) n cap) rfl rfl (by kernel_rfl) (by kernel_rfl) (by kernel_rfl) (fun _ _ _ h => h) (by rfl) (fun W hSw => by obtain ⟨q0, q1, q2⟩ := hSw; go_simp) hS0 ?_
          simp only [Act.put, List.setIfInBounds_toArray, List.set_cons_zero, List.set_cons_succ]
          refine take_at 7 (some 52) (.int .i64 i) rfl rfl (by kernel_rfl) (by kernel_rfl) (by kernel_rfl) (fun _ _ _ h => h) (by rfl) (fun W hSw => by obtain ⟨q0, q1, q2⟩ := hSw; go_simp) hS0 ?_
          simp only [Act.put, List.setIfInBounds_toArray, List.set_cons_zero, List.set_cons_succ]
          refine take_at 8 (some 53) (.pointer (some ⟨bb, oo + i * 4, none⟩)) rfl rfl (by kernel_rfl) (by kernel_rfl) (by kernel_rfl) (fun _ _ _ h => h) (by rfl) (fun W hSw => by obtain ⟨q0, q1, q2⟩ := hSw; go_simp; try (intro hh; exfalso; omega)) hS0 ?_
          simp only [Act.put, List.setIfInBounds_toArray, List.set_cons_zero, List.set_cons_succ]
          refine take_at 9 (some 54) (.pointer (some ⟨bb, oo + i * 4 + 2, none⟩)) rfl rfl (by kernel_rfl) (by kernel_rfl) (by kernel_rfl) (fun _ _ _ h => h) (by rfl) (fun W hSw => by obtain ⟨q0, q1, q2⟩ := hSw; go_simp) hS0 ?_
          simp only [Act.put, List.setIfInBounds_toArray, List.set_cons_zero, List.set_cons_succ]
          refine take_at 10 (some 55) (.agg #[.bool vo, .int .i64 vn]) rfl rfl (by kernel_rfl) (by kernel_rfl) (by kernel_rfl) (fun _ _ _ h => h) (by rfl) (fun W hSw => by obtain ⟨q0, q1, q2⟩ := hSw; go_simp) hS0 ?_
          simp only [Act.put, List.setIfInBounds_toArray, List.set_cons_zero, List.set_cons_succ]
          refine take_at 11 (some 56) (.agg #[.int .i64 T, .bool vo, .int .i64 vn]) rfl rfl (by kernel_rfl) (by kernel_rfl) (by kernel_rfl) (fun _ _ _ h => h) (by rfl) (fun W hSw => by obtain ⟨q0, q1, q2⟩ := hSw; go_simp) hS0 ?_
          simp only [Act.put, List.setIfInBounds_toArray, List.set_cons_zero, List.set_cons_succ]
          refine take_at 13 (some 58) (.pointer (some ⟨mb, 0, none⟩)) rfl rfl (by kernel_rfl) (by kernel_rfl) (by kernel_rfl) (fun _ _ _ h => h) (by rfl) (fun W hSw => by obtain ⟨q0, q1, q2⟩ := hSw; go_simp) hS0 ?_
          simp only [Act.put, List.setIfInBounds_toArray, List.set_cons_zero, List.set_cons_succ]
          refine take_at 14 (some 59) (.slice (some ⟨bb, oo, none⟩) n cap) rfl rfl (by kernel_rfl) (by kernel_rfl) (by kernel_rfl) (fun _ _ _ h => h) (by rfl) (fun W hSw => by obtain ⟨q0, q1, q2⟩ := hSw; go_simp) hS0 ?_
          simp only [Act.put, List.setIfInBounds_toArray, List.set_cons_zero, List.set_cons_succ]
          refine take_at 15 (some 60) (.int .i64 i) rfl rfl (by kernel_rfl) (by kernel_rfl) (by kernel_rfl) (fun _ _ _ h => h) (by rfl) (fun W hSw => by obtain ⟨q0, q1, q2⟩ := hSw; go_simp) hS0 ?_
          simp only [Act.put, List.setIfInBounds_toArray, List.set_cons_zero, List.set_cons_succ]
          refine take_at 16 (some 61) (.pointer (some ⟨bb, oo + i * 4, none⟩)) rfl rfl (by kernel_rfl) (by kernel_rfl) (by kernel_rfl) (fun _ _ _ h => h) (by rfl) (fun W hSw => by obtain ⟨q0, q1, q2⟩ := hSw; go_simp; try (intro hh; exfalso; omega)) hS0 ?_
          simp only [Act.put, List.setIfInBounds_toArray, List.set_cons_zero, List.set_cons_succ]
          refine take_at 17 (some 62) (.pointer (some ⟨bb, oo + i * 4 + 1, none⟩)) rfl rfl (by kernel_rfl) (by kernel_rfl) (by kernel_rfl) (fun _ _ _ h => h) (by rfl) (fun W hSw => by obtain ⟨q0, q1, q2⟩ := hSw; go_simp) hS0 ?_
          simp only [Act.put, List.setIfInBounds_toArray, List.set_cons_zero, List.set_cons_succ]
          refine take_at 18 (some 63) (.int .i64 T) rfl rfl (by kernel_rfl) (by kernel_rfl) (by kernel_rfl) (fun _ _ _ h => h) (by rfl) (fun W hSw => by obtain ⟨q0, q1, q2⟩ := hSw; go_simp) hS0 ?_
          simp only [Act.put, List.setIfInBounds_toArray, List.set_cons_zero, List.set_cons_succ]
          refine take_at 19 (some 64) (.slice (some ⟨bb, oo, none⟩) n cap) rfl rfl (by kernel_rfl) (by kernel_rfl) (by kernel_rfl) (fun _ _ _ h => h) (by rfl) (fun W hSw => by obtain ⟨q0, q1, q2⟩ := hSw; go_simp) hS0 ?_
          simp only [Act.put, List.setIfInBounds_toArray, List.set_cons_zero, List.set_cons_succ]
          refine take_at 20 (some 65) (.int .i64 i) rfl rfl (by kernel_rfl) (by kernel_rfl) (by kernel_rfl) (fun _ _ _ h => h) (by rfl) (fun W hSw => by obtain ⟨q0, q1, q2⟩ := hSw; go_simp) hS0 ?_
          simp only [Act.put, List.setIfInBounds_toArray, List.set_cons_zero, List.set_cons_succ]
          refine take_at 21 (some 66) (.pointer (some ⟨bb, oo + i * 4, none⟩)) rfl rfl (by kernel_rfl) (by kernel_rfl) (by kernel_rfl) (fun _ _ _ h => h) (by rfl) (fun W hSw => by obtain ⟨q0, q1, q2⟩ := hSw; go_simp; try (intro hh; exfalso; omega)) hS0 ?_
          simp only [Act.put, List.setIfInBounds_toArray, List.set_cons_zero, List.set_cons_succ]
          refine take_at 22 (some 67) (.pointer (some ⟨bb, oo + i * 4 + 2, none⟩)) rfl rfl (by kernel_rfl) (by kernel_rfl) (by kernel_rfl) (fun _ _ _ h => h) (by rfl) (fun W hSw => by obtain ⟨q0, q1, q2⟩ := hSw; go_simp) hS0 ?_
          simp only [Act.put, List.setIfInBounds_toArray, List.set_cons_zero, List.set_cons_succ]
          refine take_at 23 (some 68) (.agg #[.bool vo, .int .i64 vn]) rfl rfl (by kernel_rfl) (by kernel_rfl) (by kernel_rfl) (fun _ _ _ h => h) (by rfl) (fun W hSw => by obtain ⟨q0, q1, q2⟩ := hSw; go_simp) hS0 ?_
          simp only [Act.put, List.setIfInBounds_toArray, List.set_cons_zero, List.set_cons_succ]
          refine take_at 24 (some 69) (.agg #[.int .i64 T, .bool vo, .int .i64 vn]) rfl rfl (by kernel_rfl) (by kernel_rfl) (by kernel_rfl) (fun _ _ _ h => h) (by rfl) (fun W hSw => by obtain ⟨q0, q1, q2⟩ := hSw; go_simp) hS0 ?_
          simp only [Act.put, List.setIfInBounds_toArray, List.set_cons_zero, List.set_cons_succ]
          refine wpAnyH_ready (rs := [12]) (by kernel_rfl) (by simp) ?_
          refine AllReadyH.cons rfl (fun K hK => ?_) AllReadyH.nil
          go_simp
          refine (a1 _ s1d).mono ?_
          rintro e w4 ⟨rfl, s14, hg⟩
          have md4 := mdd.kept hg (by simp; exact HNE.out.symm)
          have ml4 := mld.kept hg (Or.inr (Or.inr rfl))
          have hb4 := grown_above hbd hg hbd.size hB1
          clear a1 s1d mdd mld hbd hg
          have hl4 := s14.m.lt
          have hS1 := (⟨(HU.out w4 hb4).2.1, (HU.out w4 hb4).2.2.1, (HU.out w4 hb4).2.2.2⟩ : (fun W : World => W.cell? ⟨bb, oo + i * 4 + 1, none⟩ = some (Value.int .i64 T) ∧ W.cell? ⟨bb, oo + i * 4 + 2, none⟩ = some (Value.bool vo) ∧ W.cell? ⟨bb, oo + i * 4 + 3, none⟩ = some (Value.int .i64 vn)) w4)
          refine hK.out _ _ hS1 (fun _ => ?_)
          clear hK K
          refine wpAnyH_ready (rs := [25]) (by kernel_rfl) (by simp) ?_
          refine AllReadyH.cons rfl (fun K hK => ?_) AllReadyH.nil
          go_simp
          refine (av _ md4 ml4 hl4).mono ?_
          rintro e w5 ⟨rfl, ⟨la', a5, n5, c5, md5, ml5, pv5⟩, hg⟩
          have s15 := s14.kept hg (by simp; exact HNE.out)
          have hb5 := grown_above hb4 hg hb4.size hB2
          clear av s14 md4 ml4 hb4 hg hl4
          have hS2 := (⟨(HU.out w5 hb5).2.1, (HU.out w5 hb5).2.2.1, (HU.out w5 hb5).2.2.2⟩ : (fun W : World => W.cell? ⟨bb, oo + i * 4 + 1, none⟩ = some (Value.int .i64 T) ∧ W.cell? ⟨bb, oo + i * 4 + 2, none⟩ = some (Value.bool vo) ∧ W.cell? ⟨bb, oo + i * 4 + 3, none⟩ = some (Value.int .i64 vn)) w5)
          refine hK.out _ _ hS2 (fun _ => ?_)
          clear hK K
          refine take_at 26 (some 71) (.bool false) rfl rfl (by kernel_rfl) (by kernel_rfl) (by kernel_rfl) (fun _ _ _ h => h) (by rfl) (fun W hSw => by obtain ⟨q0, q1, q2⟩ := hSw; go_simp) hS2 ?_
          simp only [Act.put, List.setIfInBounds_toArray, List.set_cons_zero, List.set_cons_succ]
          refine wpAnyH_done (by kernel_rfl) ?_ _
          refine NoPanic.normal ?_
          clear hS0 hS1 hS2 u0w u1w u2w u3w
          obtain ⟨nw', hnw⟩ : ∃ x, x = nw := ⟨_, rfl⟩
          subst hnw
          obtain ⟨m0, m1, m2, m3, _, _, _⟩ := id md5
          go_wp2_with fail
          refine (alike_all b a5 n5 c5 L' k nw' _ s15 ml5.s).mono ?_
          rintro e w6 ⟨rfl, hb6⟩
          clear hn hi2 hB1 hB2 hdn hd m0 m1 m2 m3 hlt
          go_wp2_with fail
          go_roundw
          case rel => exact ⟨i + 1, nw', _, a5, n5, c5, L', HLT.out, by rw [en.out]; rfl, s15.later hb6, md5.later hb6, ml5.later hb6, pv5, Below.chain hb5 hb6⟩
          case measure => rw [en.out]; exact meas i n HLT.out
      · have hd : decide ((i : Int) < (n : Int)) = false := decide_eq_false (by omega)
        clear s1 md ml pv
        go_wp2
        go_ret
        exact ⟨rfl, hb⟩
  · have hdn : decide ((150 : Int) < (n : Int)) = true := decide_eq_true (by omega)
    clear hs hl
    go_enter Try.func3, Try.ntmps3
    go_wp2_with fail
    refine (known_any _).mono ?_
    rintro e w1 ⟨rfl, hb1⟩
    go_wp2
    go_ret
    exact ⟨rfl, hb1⟩
end Go.Proofs.Ytchopogodfghoaa
