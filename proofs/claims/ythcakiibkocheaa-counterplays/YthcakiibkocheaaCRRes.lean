/- The document's own count of how often a counter began anew. -/
import Derived.Test.YthcakiibkocheaaCRes
import Derived.Test.YthcakiibkocheaaRefCmp
namespace Go.Proofs.Ythcakiibkocheaa
open Go.RowKit

set_option maxHeartbeats 4000000 in
theorem rresets_any (ao : Option Addr) (n cap : Nat) (l : List Smp) (w : World) (hn : n ≤ 100) (hs : Ms w ao n l) (hl : ∀ s ∈ l, R64 s.2.2) :
    Calls Try.prog 19 #[.slice ao n cap] w fun e w' => e = .returned (.int .i64 (rsP l)) ∧ Below w.heap.size w w' := by
  have HA : Hid (l.length = n) := hs.1
  have HR : Hid (∀ j, j < n → R64 (l.getD j s0).2.2) := fun j hj => hl _ (getD_memS (by rw [HA.out]; exact hj))
  by_cases h0 : 1 < n
  · obtain ⟨b, off, rfl, hc⟩ := hs.read (by omega)
    have HC : Hid (∀ W, Below w.heap.size w W → ∀ j, j < n → W.cell? ⟨b, off + j * 3 + 1, none⟩ = some (.bool (l.getD j s0).2.1) ∧ W.cell? ⟨b, off + j * 3 + 2, none⟩ = some (.int .i64 (l.getD j s0).2.2)) := hc
    clear hc hs hl
    go_enter Try.func19, Try.ntmps19
    go_wp2_with fail
    go_loopw [4, 3] (fun t v wr => ∃ i : Nat, Hid (1 ≤ i ∧ i ≤ n) ∧ t = .int .i64 i ∧ v = .int .i64 (rsN l (i - 1) : Nat) ∧ Below w.heap.size w wr) (fun t _ _ => n - (intOf t).toNat)
    case atStart => exact ⟨1, ⟨by omega, by omega⟩, rfl, rfl, Below.refl _ _⟩
    case round =>
      obtain ⟨i, HR0, rfl, rfl, hb⟩ := hrel
      obtain ⟨h1i, hin⟩ := HR0.out
      by_cases hlt : i < n
      · have hd : decide ((i : Int) < (n : Int)) = true := decide_eq_true (by omega)
        have hd' : decide (i < n) = true := decide_eq_true hlt
        obtain ⟨p, hpi⟩ : ∃ p, p + 1 = i := ⟨i - 1, by omega⟩
        have hpn : p < n := by omega
        have EP := inum i n p hpi hlt hn
        have HZ : Hid (∀ W, Below w.heap.size w W → W.cell? ⟨b, off + i * 3 + 1, none⟩ = some (.bool (l.getD i s0).2.1) ∧ W.cell? ⟨b, off + i * 3 + 2, none⟩ = some (.int .i64 (l.getD i s0).2.2) ∧ W.cell? ⟨b, off + p * 3 + 1, none⟩ = some (.bool (l.getD p s0).2.1) ∧ W.cell? ⟨b, off + p * 3 + 2, none⟩ = some (.int .i64 (l.getD p s0).2.2)) :=
          fun W hW => ⟨(HC.out W hW i hlt).1, (HC.out W hW i hlt).2, (HC.out W hW p hpn).1, (HC.out W hW p hpn).2⟩
        have HRs : Hid (rsN l i = rsN l p + (if decide (fCmp (cnt (l.getD i s0).2.1 (l.getD i s0).2.2) (cnt (l.getD p s0).2.1 (l.getD p s0).2.2) < 0) then 1 else 0)) := by
          show _ = _
          subst hpi
          rfl
        have HI : Hid (i - 1 = p) := by show _ = _; omega
        have hle := rsN_le l p
        have hr1 := HR.out i hlt
        have hr2 := HR.out p hpn
        have hbd := hb.trans (Below.refl _ _).drew
        obtain ⟨z0, z1, z2, z3⟩ := HZ.out _ hbd
        rw [HI.out]
        generalize rsN l p = u at *
        obtain ⟨u', hu'⟩ : ∃ u', rsN l i = u' := ⟨_, rfl⟩
        have HU0 : Hid (rsN l i = u') := hu'
        rw [hu'] at HRs
        clear hu'
        generalize l.getD i s0 = s at *
        generalize l.getD p s0 = q at *
        obtain ⟨s0', s1, s2⟩ := s
        obtain ⟨t0, t1, t2⟩ := q
        dsimp only at *
        have hu : u < 100 := by omega
        have eu : wrap64 ((u : Int) + 1) = ((u + 1 : Nat) : Int) := by unfold wrap64; omega
        have EU : Hid ((u : Int) + 1 = ((u + 1 : Nat) : Int)) := by show _ = _; omega
        have hmx : n - (i + 1) < n - i := by omega
        have hi1 : i + 1 ≤ n := hlt
        have hri := fun W => rcmp_any s1 t1 s2 t2 W hr1 hr2
        obtain ⟨CB, hCB⟩ : ∃ CB : Bool, decide (fCmp (cnt s1 s2) (cnt t1 t2) < 0) = CB := ⟨_, rfl⟩
        rw [hCB] at HRs
        have EC : Hid (decide (fCmp (cnt s1 s2) (cnt t1 t2) < 0) = CB) := hCB
        clear hCB
        go_wp2_with fail
        have hS0 : (fun W : World => W.cell? ⟨b, off + i * 3 + 1, none⟩ = some (Value.bool s1) ∧ W.cell? ⟨b, off + i * 3 + 2, none⟩ = some (Value.int .i64 s2) ∧ W.cell? ⟨b, off + p * 3 + 1, none⟩ = some (Value.bool t1) ∧ W.cell? ⟨b, off + p * 3 + 2, none⟩ = some (Value.int .i64 t2)) _ := ⟨z0, z1, z2, z3⟩
        refine wp_region_noPanic ?_
        refine wp_region_held_drew (S := fun W : World => W.cell? ⟨b, off + i * 3 + 1, none⟩ = some (Value.bool s1) ∧ W.cell? ⟨b, off + i * 3 + 2, none⟩ = some (Value.int .i64 s2) ∧ W.cell? ⟨b, off + p * 3 + 1, none⟩ = some (Value.bool t1) ∧ W.cell? ⟨b, off + p * 3 + 2, none⟩ = some (Value.int .i64 t2)) (by kernel_rfl) hS0 (fun _ => ?_)
        refine take_at 0 (some 11) (.slice (some ⟨b, off, none⟩) n cap) rfl rfl (by kernel_rfl) (by kernel_rfl) (by kernel_rfl) (fun _ _ _ h => h) (by rfl) (fun W hSw => by obtain ⟨q0, q1, q2, q3⟩ := hSw; go_simp <;> exact EP.out) hS0 ?_
        simp only [Act.put, List.setIfInBounds_toArray, List.set_cons_zero, List.set_cons_succ]
        refine take_at 1 (some 12) (.int .i64 i) rfl rfl (by kernel_rfl) (by kernel_rfl) (by kernel_rfl) (fun _ _ _ h => h) (by rfl) (fun W hSw => by obtain ⟨q0, q1, q2, q3⟩ := hSw; go_simp <;> exact EP.out) hS0 ?_
        simp only [Act.put, List.setIfInBounds_toArray, List.set_cons_zero, List.set_cons_succ]
        refine take_at 2 (some 13) (.pointer (some ⟨b, off + i * 3, none⟩)) rfl rfl (by kernel_rfl) (by kernel_rfl) (by kernel_rfl) (fun _ _ _ h => h) (by rfl) (fun W hSw => by obtain ⟨q0, q1, q2, q3⟩ := hSw; go_simp <;> exact EP.out) hS0 ?_
        simp only [Act.put, List.setIfInBounds_toArray, List.set_cons_zero, List.set_cons_succ]
        refine take_at 3 (some 14) (.pointer (some ⟨b, off + i * 3 + 1, none⟩)) rfl rfl (by kernel_rfl) (by kernel_rfl) (by kernel_rfl) (fun _ _ _ h => h) (by rfl) (fun W hSw => by obtain ⟨q0, q1, q2, q3⟩ := hSw; go_simp <;> exact EP.out) hS0 ?_
        simp only [Act.put, List.setIfInBounds_toArray, List.set_cons_zero, List.set_cons_succ]
        refine take_at 4 (some 15) (.agg #[.bool s1, .int .i64 s2]) rfl rfl (by kernel_rfl) (by kernel_rfl) (by kernel_rfl) (fun _ _ _ h => h) (by rfl) (fun W hSw => by obtain ⟨q0, q1, q2, q3⟩ := hSw; go_simp <;> exact EP.out) hS0 ?_
        simp only [Act.put, List.setIfInBounds_toArray, List.set_cons_zero, List.set_cons_succ]
        refine take_at 5 (some 16) (.slice (some ⟨b, off, none⟩) n cap) rfl rfl (by kernel_rfl) (by kernel_rfl) (by kernel_rfl) (fun _ _ _ h => h) (by rfl) (fun W hSw => by obtain ⟨q0, q1, q2, q3⟩ := hSw; go_simp <;> exact EP.out) hS0 ?_
        simp only [Act.put, List.setIfInBounds_toArray, List.set_cons_zero, List.set_cons_succ]
        refine take_at 6 (some 17) (.int .i64 i) rfl rfl (by kernel_rfl) (by kernel_rfl) (by kernel_rfl) (fun _ _ _ h => h) (by rfl) (fun W hSw => by obtain ⟨q0, q1, q2, q3⟩ := hSw; go_simp <;> exact EP.out) hS0 ?_
        simp only [Act.put, List.setIfInBounds_toArray, List.set_cons_zero, List.set_cons_succ]
        refine take_at 7 (some 18) (.int .i64 p) rfl rfl (by kernel_rfl) (by kernel_rfl) (by kernel_rfl) (fun _ _ _ h => h) (by rfl) (fun W hSw => by obtain ⟨q0, q1, q2, q3⟩ := hSw; go_simp <;> exact EP.out) hS0 ?_
        simp only [Act.put, List.setIfInBounds_toArray, List.set_cons_zero, List.set_cons_succ]
        refine take_at 8 (some 19) (.pointer (some ⟨b, off + p * 3, none⟩)) rfl rfl (by kernel_rfl) (by kernel_rfl) (by kernel_rfl) (fun _ _ _ h => h) (by rfl) (fun W hSw => by obtain ⟨q0, q1, q2, q3⟩ := hSw; go_simp <;> exact EP.out) hS0 ?_
        simp only [Act.put, List.setIfInBounds_toArray, List.set_cons_zero, List.set_cons_succ]
        refine take_at 9 (some 20) (.pointer (some ⟨b, off + p * 3 + 1, none⟩)) rfl rfl (by kernel_rfl) (by kernel_rfl) (by kernel_rfl) (fun _ _ _ h => h) (by rfl) (fun W hSw => by obtain ⟨q0, q1, q2, q3⟩ := hSw; go_simp <;> exact EP.out) hS0 ?_
        simp only [Act.put, List.setIfInBounds_toArray, List.set_cons_zero, List.set_cons_succ]
        refine take_at 10 (some 21) (.agg #[.bool t1, .int .i64 t2]) rfl rfl (by kernel_rfl) (by kernel_rfl) (by kernel_rfl) (fun _ _ _ h => h) (by rfl) (fun W hSw => by obtain ⟨q0, q1, q2, q3⟩ := hSw; go_simp <;> exact EP.out) hS0 ?_
        simp only [Act.put, List.setIfInBounds_toArray, List.set_cons_zero, List.set_cons_succ]
        refine wpAnyH_ready (rs := [11]) (by kernel_rfl) (by simp) ?_
        refine AllReadyH.cons rfl (fun K hK => ?_) AllReadyH.nil
        go_simp
        refine (hri _).mono ?_
        rintro e w2 ⟨rfl, hb2⟩
        have hb2c := Below.chain hbd hb2
        obtain ⟨y0, y1, y2, y3⟩ := HZ.out _ hb2c
        have hS2 := (⟨y0, y1, y2, y3⟩ : (fun W : World => W.cell? ⟨b, off + i * 3 + 1, none⟩ = some (Value.bool s1) ∧ W.cell? ⟨b, off + i * 3 + 2, none⟩ = some (Value.int .i64 s2) ∧ W.cell? ⟨b, off + p * 3 + 1, none⟩ = some (Value.bool t1) ∧ W.cell? ⟨b, off + p * 3 + 2, none⟩ = some (Value.int .i64 t2)) w2)
        refine hK.out _ _ hS2 (fun _ => ?_)
        clear hK K
        refine take_at 12 (some 23) (.bool CB) rfl rfl (by kernel_rfl) (by kernel_rfl) (by kernel_rfl) (fun _ _ _ h => h) (by rfl) (fun W hSw => by go_simp <;> exact EC.out) hS2 ?_
        simp only [Act.put, List.setIfInBounds_toArray, List.set_cons_zero, List.set_cons_succ]
        refine wpAnyH_done (by kernel_rfl) ?_ _
        refine NoPanic.normal ?_
        cases CB with
        | true =>
          have HU : Hid (u' = u + 1) := HRs.out
          clear EP HRs
          go_wp2
          go_roundw
          case rel => exact ⟨i + 1, ⟨by omega, hi1⟩, by go_num, by rw [Nat.add_sub_cancel, HU0.out, HU.out]; first | rfl | go_num, hb2c⟩
          case measure => simp [intOf]; omega
        | false =>
          have HU : Hid (u' = u) := HRs.out
          clear EP HRs
          go_wp2
          go_roundw
          case rel => exact ⟨i + 1, ⟨by omega, hi1⟩, by go_num, by rw [Nat.add_sub_cancel, HU0.out, HU.out], hb2c⟩
          case measure => simp [intOf]; omega
      · have hd : decide ((i : Int) < (n : Int)) = false := decide_eq_false (by omega)
        have hd' : decide (i < n) = false := decide_eq_false hlt
        have HE : Hid (((rsN l (i - 1) : Nat) : Int) = ((rsP l : Nat) : Int)) := by
          show _ = _
          unfold rsP
          rw [HA.out, show i = n by omega]
        go_wp2
        go_ret
        exact ⟨ret_int HE.out, hb⟩
  · have d0 : decide ((1 : Int) < (n : Int)) = false := decide_eq_false (by omega)
    have d0' : decide (1 < n) = false := decide_eq_false h0
    have HE : Hid ((0 : Int) = ((rsP l : Nat) : Int)) := by show _ = _; unfold rsP; rw [HA.out, show n - 1 = 0 by omega]; rfl
    clear hs hl
    go_enter Try.func19, Try.ntmps19
    go_wp2_with fail
    go_loopw [4, 3] (fun t v wr => t = .int .i64 1 ∧ v = .int .i64 0 ∧ wr = w) (fun _ _ _ => 0)
    case atStart => exact ⟨rfl, rfl, rfl⟩
    case round =>
      obtain ⟨rfl, rfl, rfl⟩ := hrel
      go_wp2
      go_ret
      exact ⟨ret_int HE.out, Below.refl _ _⟩
end Go.Proofs.Ythcakiibkocheaa
