/- Texts that the others lean on. -/
import Derived.Test.YtjgckfcocmhnhaaGreatDoorKQ1
namespace Go.Proofs.YtjgckfcocmhnhaaGreatDoor.Sp
open Go.RowKit
/-- A row of sets, and a row of series, each set told by its place. -/
def SA (LB : World → Value → Nat → Prop) (N : Nat) (w : World) (ao : Option Addr) : Prop := ∀ j, j < N → ∃ g u, ao = some ⟨g, 0, none⟩ ∧ w.cell? ⟨g, j, none⟩ = some u ∧ LB w u j
def SB (LB : World → Value → Nat → Prop) (N : Nat) (w : World) (bo : Option Addr) : Prop := ∀ j, j < N → ∃ b off p u, bo = some ⟨b, off, none⟩ ∧ w.cell? ⟨b, off + j, none⟩ = some (.pointer (some ⟨p, 0, none⟩)) ∧ w.cell? ⟨p, 0, none⟩ = some u ∧ LB w u j
theorem SA.later {LB : World → Value → Nat → Prop} {N : Nat} {w w' : World} {ao : Option Addr} (h : SA LB N w ao) (hLB : ∀ W W' u j, LB W u j → Below W.heap.size W W' → LB W' u j) (hb : Below w.heap.size w w') : SA LB N w' ao := fun j hj => by
 obtain ⟨g, u, e, h1, h2⟩ := h j hj
 exact ⟨g, u, e, (hb.cell (p := ⟨g, j, none⟩) (World.block_lt_of_cell? _ _ h1)).trans h1, hLB _ _ _ _ h2 hb⟩
theorem SB.later {LB : World → Value → Nat → Prop} {N : Nat} {w w' : World} {ao : Option Addr} (h : SB LB N w ao) (hLB : ∀ W W' u j, LB W u j → Below W.heap.size W W' → LB W' u j) (hb : Below w.heap.size w w') : SB LB N w' ao := fun j hj => by
 obtain ⟨b, off, p, u, e, h1, h2, h3⟩ := h j hj
 exact ⟨b, off, p, u, e, (hb.cell (p := ⟨b, off + j, none⟩) (World.block_lt_of_cell? _ _ h1)).trans h1, (hb.cell (p := ⟨p, 0, none⟩) (World.block_lt_of_cell? _ _ h2)).trans h2, hLB _ _ _ _ h3 hb⟩
/-- A sample, a number in a block of its own. -/
def Bs (w : World) (x : Nat) (t : Int) (o : Bool) (n : Int) : Prop := w.cell? ⟨x, 0, none⟩ = some (.int .i64 t) ∧ w.cell? ⟨x, 1, none⟩ = some (.bool o) ∧ w.cell? ⟨x, 2, none⟩ = some (.int .i64 n)
theorem Bs.later {w w' : World} {x : Nat} {t : Int} {o : Bool} {n : Int} (h : Bs w x t o n) (hb : Below w.heap.size w w') : Bs w' x t o n :=
 ⟨(hb.cell (p := ⟨x, 0, none⟩) (World.block_lt_of_cell? _ _ h.1)).trans h.1, (hb.cell (p := ⟨x, 1, none⟩) (World.block_lt_of_cell? _ _ h.2.1)).trans h.2.1, (hb.cell (p := ⟨x, 2, none⟩) (World.block_lt_of_cell? _ _ h.2.2)).trans h.2.2⟩
theorem Bs.new (w : World) (t : Int) (o : Bool) (n : Int) : Bs (w.alloc (.cells #[.int .i64 t, .bool o, .int .i64 n] 35)) w.heap.size t o n := by
 refine ⟨?_, ?_, ?_⟩ <;> simp [go_sem]
def Bn (w : World) (x : Nat) (o : Bool) (n : Int) : Prop := w.cell? ⟨x, 0, none⟩ = some (.bool o) ∧ w.cell? ⟨x, 1, none⟩ = some (.int .i64 n)
theorem Bn.later {w w' : World} {x : Nat} {o : Bool} {n : Int} (h : Bn w x o n) (hb : Below w.heap.size w w') : Bn w' x o n :=
 ⟨(hb.cell (p := ⟨x, 0, none⟩) (World.block_lt_of_cell? _ _ h.1)).trans h.1, (hb.cell (p := ⟨x, 1, none⟩) (World.block_lt_of_cell? _ _ h.2)).trans h.2⟩
theorem Bn.new (w : World) (o : Bool) (n : Int) : Bn (w.alloc (.cells #[.bool o, .int .i64 n] 33)) w.heap.size o n := by
 constructor <;> simp [go_sem]
theorem nm_cell (w : World) (i : Nat) (hi : i < 10) : (w.alloc (.cells #[.string ⟨#[115, 117, 109]⟩, .string ⟨#[97, 118, 103]⟩, .string ⟨#[109, 105, 110]⟩, .string ⟨#[109, 97, 120]⟩, .string ⟨#[99, 111, 117, 110, 116]⟩, .string ⟨#[108, 97, 115, 116]⟩, .string ⟨#[105, 110, 99, 114, 101, 97, 115, 101]⟩, .string ⟨#[114, 97, 116, 101]⟩, .string ⟨#[100, 101, 108, 116, 97]⟩, .string ⟨#[119, 104, 97, 116]⟩] 101)).cell? ⟨w.heap.size, i, none⟩ = some (nmV i) := by
 match i, hi with
 | 0, _ | 1, _ | 2, _ | 3, _ | 4, _ | 5, _ | 6, _ | 7, _ | 8, _ | 9, _ => simp [go_sem, nmV]
set_option maxHeartbeats 16000000 in
set_option maxRecDepth 100000 in
theorem alike_walk (LB : World → Value → Nat → Prop) (FD : World → Value → Prop) (MA : World → Option Addr → Prop) (T : Nat → Bool × Int × Bool) (sb hb : Nat) (now k : Int) (K N nA : Nat) (q m : Value) (d t0 : Int) (o0 : Bool) (n0 : Int) (z0 : Bool) (w : World)
  (hnow : 0 ≤ now ∧ now ≤ 1000000)
  (hk1 : 1 ≤ k ∧ k ≤ 100)
  (hN : N ≤ 1000000)
  (hk : max 1 (min d 100) = k)
  (hc0 : w.cell? ⟨hb, 0, none⟩ = some (.int .i64 now))
  (hLB : ∀ W W' u j, LB W u j → Below W.heap.size W W' → LB W' u j)
  (hFD : ∀ W W' v, FD W v → Below W.heap.size W W' → FD W' v)
  (hMA : ∀ W W' a, MA W a → Below W.heap.size W W' → MA W' a)
  (c17 : ∀ W, Below w.heap.size w W → Calls Tryz.prog 17 #[.pointer (some ⟨sb, 0, none⟩)] W fun e w' => e = .returned (.int .i64 now) ∧ Below W.heap.size W w')
  (c19 : ∀ W, Below w.heap.size w W → Calls Tryz.prog 19 #[.pointer (some ⟨sb, 0, none⟩)] W fun e w' => e = .returned (.int .i64 (K : Nat)) ∧ Below W.heap.size W w')
  (c41 : ∀ W, Below w.heap.size w W → Calls Tryz.prog 41 #[.pointer (some ⟨hb, 0, none⟩)] W fun e w' => e = .returned (.int .i64 (K : Nat)) ∧ Below W.heap.size W w')
  (c26 : ∀ W, Below w.heap.size w W → Calls Tryz.prog 26 #[.pointer (some ⟨sb, 0, none⟩), m] W fun e w' => (∃ ao cap, e = .returned (.slice ao N cap) ∧ SA LB N w' ao) ∧ Below W.heap.size W w')
  (c44 : ∀ W, Below w.heap.size w W → Calls Tryz.prog 44 #[.pointer (some ⟨hb, 0, none⟩), .int .i64 now, m] W fun e w' => (∃ bo cap, e = .returned (.slice bo N cap) ∧ SB LB N w' bo) ∧ Below W.heap.size W w')
  (c45 : ∀ W u v j, Below w.heap.size w W → j < N → LB W u j → LB W v j → Calls Tryz.prog 45 #[u, v] W fun e w' => e = .returned (.bool true) ∧ Below W.heap.size W w')
  (c38 : ∀ W, Below w.heap.size w W → Calls Tryz.prog 38 #[.pointer (some ⟨hb, 0, none⟩), q] W fun e w' => (∃ v, e = .returned v ∧ FD w' v) ∧ Below W.heap.size W w')
  (c25 : ∀ W, Below w.heap.size w W → Calls Tryz.prog 25 #[.pointer (some ⟨sb, 0, none⟩), q] W fun e w' => e = .returned (.tuple #[.agg #[.int .i64 t0, .bool o0, .int .i64 n0], .bool z0]) ∧ Below W.heap.size W w')
  (c46 : ∀ W v, FD W v → Calls Tryz.prog 46 #[v, .int .i64 now] W fun e w' => e = .returned (.tuple #[.agg #[.int .i64 t0, .bool o0, .int .i64 n0], .bool z0]) ∧ Below W.heap.size W w')
  (c47 : ∀ W v, FD W v → Calls Tryz.prog 47 #[v, .int .i64 (now - k), .int .i64 now] W fun e w' => (∃ ao cap, e = .returned (.slice ao nA cap) ∧ MA w' ao) ∧ Below W.heap.size W w')
  (c20 : ∀ W, Below w.heap.size w W → Calls Tryz.prog 20 #[.pointer (some ⟨sb, 0, none⟩), q, .int .i64 d] W fun e w' => (∃ ao cap, e = .returned (.slice ao nA cap) ∧ MA w' ao) ∧ Below W.heap.size W w')
  (c48 : ∀ W a b ca cb, MA W a → MA W b → Calls Tryz.prog 48 #[.slice a nA ca, .slice b nA cb] W fun e w' => e = .returned (.bool true) ∧ Below W.heap.size W w')
  (c21 : ∀ W i, Below w.heap.size w W → Calls Tryz.prog 21 #[.pointer (some ⟨sb, 0, none⟩), q, nmV i, .int .i64 d] W fun e w' => e = .returned (ansT (T i)) ∧ Below W.heap.size W w')
  (c50 : ∀ W i a ca, MA W a → Calls Tryz.prog 50 #[.slice a nA ca, nmV i, .int .i64 k] W fun e w' => e = .returned (ansT (T i)) ∧ Below W.heap.size W w')
  : Calls Tryz.prog 15 #[.pointer (some ⟨sb, 0, none⟩), .pointer (some ⟨hb, 0, none⟩), q, m, .int .i64 d] w fun e w' => e = .returned (.bool true) ∧ Below w.heap.size w w' := by
 have HC0 : Hid (∀ W, Below w.heap.size w W → W.cell? ⟨hb, 0, none⟩ = some (.int .i64 now)) := fun W hW => (hW.cell (p := ⟨hb, 0, none⟩) (World.block_lt_of_cell? _ _ hc0)).trans hc0
 clear hc0
 have HhLB : Hid (∀ W W' u j, LB W u j → Below W.heap.size W W' → LB W' u j) := hLB
 clear hLB
 have HhFD : Hid (∀ W W' v, FD W v → Below W.heap.size W W' → FD W' v) := hFD
 clear hFD
 have HhMA : Hid (∀ W W' a, MA W a → Below W.heap.size W W' → MA W' a) := hMA
 clear hMA
 have Hc17 : Hid (∀ W, Below w.heap.size w W → Calls Tryz.prog 17 #[.pointer (some ⟨sb, 0, none⟩)] W fun e w' => e = .returned (.int .i64 now) ∧ Below W.heap.size W w') := c17
 clear c17
 have Hc19 : Hid (∀ W, Below w.heap.size w W → Calls Tryz.prog 19 #[.pointer (some ⟨sb, 0, none⟩)] W fun e w' => e = .returned (.int .i64 (K : Nat)) ∧ Below W.heap.size W w') := c19
 clear c19
 have Hc41 : Hid (∀ W, Below w.heap.size w W → Calls Tryz.prog 41 #[.pointer (some ⟨hb, 0, none⟩)] W fun e w' => e = .returned (.int .i64 (K : Nat)) ∧ Below W.heap.size W w') := c41
 clear c41
 have Hc26 : Hid (∀ W, Below w.heap.size w W → Calls Tryz.prog 26 #[.pointer (some ⟨sb, 0, none⟩), m] W fun e w' => (∃ ao cap, e = .returned (.slice ao N cap) ∧ SA LB N w' ao) ∧ Below W.heap.size W w') := c26
 clear c26
 have Hc44 : Hid (∀ W, Below w.heap.size w W → Calls Tryz.prog 44 #[.pointer (some ⟨hb, 0, none⟩), .int .i64 now, m] W fun e w' => (∃ bo cap, e = .returned (.slice bo N cap) ∧ SB LB N w' bo) ∧ Below W.heap.size W w') := c44
 clear c44
 have Hc45 : Hid (∀ W u v j, Below w.heap.size w W → j < N → LB W u j → LB W v j → Calls Tryz.prog 45 #[u, v] W fun e w' => e = .returned (.bool true) ∧ Below W.heap.size W w') := c45
 clear c45
 have Hc38 : Hid (∀ W, Below w.heap.size w W → Calls Tryz.prog 38 #[.pointer (some ⟨hb, 0, none⟩), q] W fun e w' => (∃ v, e = .returned v ∧ FD w' v) ∧ Below W.heap.size W w') := c38
 clear c38
 have Hc25 : Hid (∀ W, Below w.heap.size w W → Calls Tryz.prog 25 #[.pointer (some ⟨sb, 0, none⟩), q] W fun e w' => e = .returned (.tuple #[.agg #[.int .i64 t0, .bool o0, .int .i64 n0], .bool z0]) ∧ Below W.heap.size W w') := c25
 clear c25
 have Hc46 : Hid (∀ W v, FD W v → Calls Tryz.prog 46 #[v, .int .i64 now] W fun e w' => e = .returned (.tuple #[.agg #[.int .i64 t0, .bool o0, .int .i64 n0], .bool z0]) ∧ Below W.heap.size W w') := c46
 clear c46
 have Hc47 : Hid (∀ W v, FD W v → Calls Tryz.prog 47 #[v, .int .i64 (now - k), .int .i64 now] W fun e w' => (∃ ao cap, e = .returned (.slice ao nA cap) ∧ MA w' ao) ∧ Below W.heap.size W w') := c47
 clear c47
 have Hc20 : Hid (∀ W, Below w.heap.size w W → Calls Tryz.prog 20 #[.pointer (some ⟨sb, 0, none⟩), q, .int .i64 d] W fun e w' => (∃ ao cap, e = .returned (.slice ao nA cap) ∧ MA w' ao) ∧ Below W.heap.size W w') := c20
 clear c20
 have Hc48 : Hid (∀ W a b ca cb, MA W a → MA W b → Calls Tryz.prog 48 #[.slice a nA ca, .slice b nA cb] W fun e w' => e = .returned (.bool true) ∧ Below W.heap.size W w') := c48
 clear c48
 have Hc21 : Hid (∀ W i, Below w.heap.size w W → Calls Tryz.prog 21 #[.pointer (some ⟨sb, 0, none⟩), q, nmV i, .int .i64 d] W fun e w' => e = .returned (ansT (T i)) ∧ Below W.heap.size W w') := c21
 clear c21
 have Hc50 : Hid (∀ W i a ca, MA W a → Calls Tryz.prog 50 #[.slice a nA ca, nmV i, .int .i64 k] W fun e w' => e = .returned (ansT (T i)) ∧ Below W.heap.size W w') := c50
 clear c50
 have ew : wrap64 (now - k) = now - k := Hy.wf64 (by omega) (by omega)
 have HEW : Hid (IntKind.i64.wrap (now - k) = now - k) := by show _ = _; simp [IntKind.wrap, IntKind.bits, IntKind.signed]; omega
 go_enter Tryz.func15, Tryz.ntmps15
 go_upto_region 1 with fail
 have hbd := (Below.refl w.heap.size w).drew
 have hS0 : (fun W : World => W.cell? ⟨hb, 0, none⟩ = some (.int .i64 now)) _ := HC0.out _ hbd
 refine wp_region_noPanic ?_
 refine wp_region_held_drew (S := fun W : World => W.cell? ⟨hb, 0, none⟩ = some (.int .i64 now)) (by kernel_rfl) hS0 (fun _ => ?_)
 refine take_at 0 (some 27) (.pointer (some ⟨sb, 0, none⟩)) rfl rfl (by kernel_rfl) (by kernel_rfl) (by kernel_rfl) (fun _ _ _ h => h) (by rfl) (fun W hSw => by go_simp) hS0 ?_
 simp only [Act.put, List.setIfInBounds_toArray, List.set_cons_zero, List.set_cons_succ]
 refine take_at 2 (some 29) (.pointer (some ⟨hb, 0, none⟩)) rfl rfl (by kernel_rfl) (by kernel_rfl) (by kernel_rfl) (fun _ _ _ h => h) (by rfl) (fun W hSw => by go_simp) hS0 ?_
 simp only [Act.put, List.setIfInBounds_toArray, List.set_cons_zero, List.set_cons_succ]
 refine take_at 3 (some 30) (.pointer (some ⟨hb, 0, none⟩)) rfl rfl (by kernel_rfl) (by kernel_rfl) (by kernel_rfl) (fun _ _ _ h => h) (by rfl) (fun W hSw => by go_simp) hS0 ?_
 simp only [Act.put, List.setIfInBounds_toArray, List.set_cons_zero, List.set_cons_succ]
 refine take_at 4 (some 31) (.pointer (some ⟨hb, 0, none⟩)) rfl rfl (by kernel_rfl) (by kernel_rfl) (by kernel_rfl) (fun _ _ _ h => h) (by rfl) (fun W hSw => by go_simp) hS0 ?_
 simp only [Act.put, List.setIfInBounds_toArray, List.set_cons_zero, List.set_cons_succ]
 refine take_at 5 (some 32) (.int .i64 now) rfl rfl (by kernel_rfl) (by kernel_rfl) (by kernel_rfl) (fun _ _ _ h => h) (by rfl) (fun W hSw => by have q0 := hSw; go_simp) hS0 ?_
 simp only [Act.put, List.setIfInBounds_toArray, List.set_cons_zero, List.set_cons_succ]
 refine wpAnyH_ready (rs := [1]) (by kernel_rfl) (by simp) ?_
 refine AllReadyH.cons rfl (fun K hK => ?_) AllReadyH.nil
 go_simp
 refine (Hc17.out _ hbd).mono ?_
 rintro e w1 ⟨rfl, hb1⟩
 have hB1 := Below.chain hbd hb1
 have hS1 := HC0.out _ hB1
 refine hK.out _ _ hS1 (fun _ => ?_)
 clear hK K
 refine take_at 6 (some 33) (.bool false) rfl rfl (by kernel_rfl) (by kernel_rfl) (by kernel_rfl) (fun _ _ _ h => h) (by rfl) (fun W hSw => by go_simp) hS1 ?_
 simp only [Act.put, List.setIfInBounds_toArray, List.set_cons_zero, List.set_cons_succ]
 refine take_at 7 (some 34) (.bool false) rfl rfl (by kernel_rfl) (by kernel_rfl) (by kernel_rfl) (fun _ _ _ h => h) (by rfl) (fun W hSw => by go_simp) hS1 ?_
 simp only [Act.put, List.setIfInBounds_toArray, List.set_cons_zero, List.set_cons_succ]
 refine take_at 8 (some 35) (.pointer (some ⟨sb, 0, none⟩)) rfl rfl (by kernel_rfl) (by kernel_rfl) (by kernel_rfl) (fun _ _ _ h => h) (by rfl) (fun W hSw => by go_simp) hS1 ?_
 simp only [Act.put, List.setIfInBounds_toArray, List.set_cons_zero, List.set_cons_succ]
 refine take_at 10 (some 37) (.pointer (some ⟨hb, 0, none⟩)) rfl rfl (by kernel_rfl) (by kernel_rfl) (by kernel_rfl) (fun _ _ _ h => h) (by rfl) (fun W hSw => by go_simp) hS1 ?_
 simp only [Act.put, List.setIfInBounds_toArray, List.set_cons_zero, List.set_cons_succ]
 refine wpAnyH_ready (rs := [9]) (by kernel_rfl) (by simp) ?_
 refine AllReadyH.cons rfl (fun K hK => ?_) AllReadyH.nil
 go_simp
 refine (Hc19.out _ hB1).mono ?_
 rintro e w2 ⟨rfl, hb2⟩
 have hB2 := Below.chain hB1 hb2
 have hS2 := HC0.out _ hB2
 refine hK.out _ _ hS2 (fun _ => ?_)
 clear hK K
 refine wpAnyH_ready (rs := [11]) (by kernel_rfl) (by simp) ?_
 refine AllReadyH.cons rfl (fun K hK => ?_) AllReadyH.nil
 go_simp
 refine (Hc41.out _ hB2).mono ?_
 rintro e w3 ⟨rfl, hb3⟩
 have hB3 := Below.chain hB2 hb3
 have hS3 := HC0.out _ hB3
 refine hK.out _ _ hS3 (fun _ => ?_)
 clear hK K
 refine take_at 12 (some 39) (.bool false) rfl rfl (by kernel_rfl) (by kernel_rfl) (by kernel_rfl) (fun _ _ _ h => h) (by rfl) (fun W hSw => by go_simp) hS3 ?_
 simp only [Act.put, List.setIfInBounds_toArray, List.set_cons_zero, List.set_cons_succ]
 refine take_at 13 (some 40) (.bool false) rfl rfl (by kernel_rfl) (by kernel_rfl) (by kernel_rfl) (fun _ _ _ h => h) (by rfl) (fun W hSw => by go_simp) hS3 ?_
 simp only [Act.put, List.setIfInBounds_toArray, List.set_cons_zero, List.set_cons_succ]
 refine wpAnyH_done (by kernel_rfl) ?_ _
 refine NoPanic.normal ?_
 clear hS0 hS1 hS2 hS3 hbd hb1 hb2 hb3 hB1 hB2
 go_upto_region 3 with fail
 have hbd := hB3.drew
 have hS0 : (fun W : World => W.cell? ⟨hb, 0, none⟩ = some (.int .i64 now)) _ := HC0.out _ hbd
 refine wp_region_noPanic ?_
 refine wp_region_held_drew (S := fun W : World => W.cell? ⟨hb, 0, none⟩ = some (.int .i64 now)) (by kernel_rfl) hS0 (fun _ => ?_)
 refine take_at 0 (some 41) (.pointer (some ⟨sb, 0, none⟩)) rfl rfl (by kernel_rfl) (by kernel_rfl) (by kernel_rfl) (fun _ _ _ h => h) (by rfl) (fun W hSw => by go_simp) hS0 ?_
 simp only [Act.put, List.setIfInBounds_toArray, List.set_cons_zero, List.set_cons_succ]
 refine take_at 1 (some 42) (m) rfl rfl (by kernel_rfl) (by kernel_rfl) (by kernel_rfl) (fun _ _ _ h => h) (by rfl) (fun W hSw => by go_simp) hS0 ?_
 simp only [Act.put, List.setIfInBounds_toArray, List.set_cons_zero, List.set_cons_succ]
 refine take_at 3 (some 44) (.pointer (some ⟨hb, 0, none⟩)) rfl rfl (by kernel_rfl) (by kernel_rfl) (by kernel_rfl) (fun _ _ _ h => h) (by rfl) (fun W hSw => by go_simp) hS0 ?_
 simp only [Act.put, List.setIfInBounds_toArray, List.set_cons_zero, List.set_cons_succ]
 refine take_at 4 (some 45) (.pointer (some ⟨hb, 0, none⟩)) rfl rfl (by kernel_rfl) (by kernel_rfl) (by kernel_rfl) (fun _ _ _ h => h) (by rfl) (fun W hSw => by go_simp) hS0 ?_
 simp only [Act.put, List.setIfInBounds_toArray, List.set_cons_zero, List.set_cons_succ]
 refine take_at 5 (some 46) (.pointer (some ⟨hb, 0, none⟩)) rfl rfl (by kernel_rfl) (by kernel_rfl) (by kernel_rfl) (fun _ _ _ h => h) (by rfl) (fun W hSw => by go_simp) hS0 ?_
 simp only [Act.put, List.setIfInBounds_toArray, List.set_cons_zero, List.set_cons_succ]
 refine take_at 6 (some 47) (.pointer (some ⟨hb, 0, none⟩)) rfl rfl (by kernel_rfl) (by kernel_rfl) (by kernel_rfl) (fun _ _ _ h => h) (by rfl) (fun W hSw => by go_simp) hS0 ?_
 simp only [Act.put, List.setIfInBounds_toArray, List.set_cons_zero, List.set_cons_succ]
 refine take_at 7 (some 48) (.int .i64 now) rfl rfl (by kernel_rfl) (by kernel_rfl) (by kernel_rfl) (fun _ _ _ h => h) (by rfl) (fun W hSw => by have q0 := hSw; go_simp) hS0 ?_
 simp only [Act.put, List.setIfInBounds_toArray, List.set_cons_zero, List.set_cons_succ]
 refine take_at 8 (some 49) (m) rfl rfl (by kernel_rfl) (by kernel_rfl) (by kernel_rfl) (fun _ _ _ h => h) (by rfl) (fun W hSw => by go_simp) hS0 ?_
 simp only [Act.put, List.setIfInBounds_toArray, List.set_cons_zero, List.set_cons_succ]
 refine wpAnyH_ready (rs := [2]) (by kernel_rfl) (by simp) ?_
 refine AllReadyH.cons rfl (fun K hK => ?_) AllReadyH.nil
 go_simp
 refine (Hc26.out _ hbd).mono ?_
 rintro e w4 ⟨⟨ao, ca, rfl, hsa⟩, hb4⟩
 have hB4 := Below.chain hbd hb4
 have hS1 := HC0.out _ hB4
 refine hK.out _ _ hS1 (fun _ => ?_)
 clear hK K
 refine wpAnyH_ready (rs := [9]) (by kernel_rfl) (by simp) ?_
 refine AllReadyH.cons rfl (fun K hK => ?_) AllReadyH.nil
 go_simp
 refine (Hc44.out _ hB4).mono ?_
 rintro e w5 ⟨⟨bo, cb, rfl, hsb⟩, hb5⟩
 have hB5 := Below.chain hB4 hb5
 have hS2 := HC0.out _ hB5
 refine hK.out _ _ hS2 (fun _ => ?_)
 clear hK K
 refine take_at 10 (some 11) (.slice ao N ca) rfl rfl (by kernel_rfl) (by kernel_rfl) (by kernel_rfl) (fun _ _ _ h => h) (by rfl) (fun W hSw => by go_simp) hS2 ?_
 simp only [Act.put, List.setIfInBounds_toArray, List.set_cons_zero, List.set_cons_succ]
 refine take_at 11 (some 12) (.slice bo N cb) rfl rfl (by kernel_rfl) (by kernel_rfl) (by kernel_rfl) (fun _ _ _ h => h) (by rfl) (fun W hSw => by go_simp) hS2 ?_
 simp only [Act.put, List.setIfInBounds_toArray, List.set_cons_zero, List.set_cons_succ]
 refine wpAnyH_done (by kernel_rfl) ?_ _
 refine NoPanic.normal ?_
 have HSA : Hid (∀ W, Below w5.heap.size w5 W → SA LB N W ao) := fun W hW => (hsa.later HhLB.out hb5).later HhLB.out hW
 have HSB : Hid (∀ W, Below w5.heap.size w5 W → SB LB N W bo) := fun W hW => hsb.later HhLB.out hW
 have HB5 : Hid (Below w.heap.size w w5) := hB5
 clear hS0 hS1 hS2 hbd hb4 hb5 hB4 hB3 hsa hsb hB5
 go_wp2
 go_loopw [13] (fun x wr => ∃ j : Nat, j ≤ N ∧ x = .int .i64 j ∧ Hid (Below w5.heap.size w5 wr)) (fun x _ => N - (intOf x).toNat)
 case atStart => exact ⟨0, by omega, rfl, Below.refl _ _⟩
 case round =>
  obtain ⟨j, hjN, rfl, hst⟩ := hrel
  by_cases hlt : j < N
  ·
   have hd : decide ((j : Int) < (N : Int)) = true := decide_eq_true (by omega)
   have hdn : decide ((N : Int) ≤ (j : Int)) = false := decide_eq_false (by omega)
   obtain ⟨g, u, rfl, a1, a2⟩ := HSA.out _ hst.out j hlt
   obtain ⟨b, off, x, v, rfl, b1, b2, b3⟩ := HSB.out _ hst.out j hlt
   have HS : Hid (∀ W, Below wr.heap.size wr W → (W.cell? ⟨g, j, none⟩ = some u ∧ W.cell? ⟨b, off + j, none⟩ = some (.pointer (some ⟨x, 0, none⟩)) ∧ W.cell? ⟨x, 0, none⟩ = some v)) := fun W hW => ⟨(hW.cell (p := ⟨g, j, none⟩) (World.block_lt_of_cell? _ _ a1)).trans a1, (hW.cell (p := ⟨b, off + j, none⟩) (World.block_lt_of_cell? _ _ b1)).trans b1, (hW.cell (p := ⟨x, 0, none⟩) (World.block_lt_of_cell? _ _ b2)).trans b2⟩
   have HL : Hid (∀ W, Below wr.heap.size wr W → LB W u j ∧ LB W v j) := fun W hW => ⟨HhLB.out _ _ _ _ a2 hW, HhLB.out _ _ _ _ b3 hW⟩
   have HLT : Hid (j < N) := hlt
   clear a1 a2 b1 b2 b3
   go_upto_region 9 with fail
   have hbd := (Below.refl wr.heap.size wr).drew
   have hS0 : (fun W : World => W.cell? ⟨g, j, none⟩ = some u ∧ W.cell? ⟨b, off + j, none⟩ = some (.pointer (some ⟨x, 0, none⟩)) ∧ W.cell? ⟨x, 0, none⟩ = some v) _ := HS.out _ hbd
   refine wp_region_noPanic ?_
   refine wp_region_held_drew (S := fun W : World => W.cell? ⟨g, j, none⟩ = some u ∧ W.cell? ⟨b, off + j, none⟩ = some (.pointer (some ⟨x, 0, none⟩)) ∧ W.cell? ⟨x, 0, none⟩ = some v) (by kernel_rfl) hS0 (fun _ => ?_)
   refine take_at 0 (some 62) (.slice (some ⟨g, 0, none⟩) N ca) rfl rfl (by kernel_rfl) (by kernel_rfl) (by kernel_rfl) (fun _ _ _ h => h) (by rfl) (fun W hSw => by clear hSw; go_simp) hS0 ?_
   simp only [Act.put, List.setIfInBounds_toArray, List.set_cons_zero, List.set_cons_succ]
   refine take_at 1 (some 63) (.int .i64 j) rfl rfl (by kernel_rfl) (by kernel_rfl) (by kernel_rfl) (fun _ _ _ h => h) (by rfl) (fun W hSw => by clear hSw; go_simp) hS0 ?_
   simp only [Act.put, List.setIfInBounds_toArray, List.set_cons_zero, List.set_cons_succ]
   refine take_at 2 (some 64) (.pointer (some ⟨g, j, none⟩)) rfl rfl (by kernel_rfl) (by kernel_rfl) (by kernel_rfl) (fun _ _ _ h => h) (by rfl) (fun W hSw => by clear hSw; go_simp) hS0 ?_
   simp only [Act.put, List.setIfInBounds_toArray, List.set_cons_zero, List.set_cons_succ]
   refine take_at 3 (some 65) (u) rfl rfl (by kernel_rfl) (by kernel_rfl) (by kernel_rfl) (fun _ _ _ h => h) (by rfl) (fun W hSw => by obtain ⟨q0, q1, q2⟩ := hSw; go_simp) hS0 ?_
   simp only [Act.put, List.setIfInBounds_toArray, List.set_cons_zero, List.set_cons_succ]
   refine take_at 4 (some 66) (.slice (some ⟨b, off, none⟩) N cb) rfl rfl (by kernel_rfl) (by kernel_rfl) (by kernel_rfl) (fun _ _ _ h => h) (by rfl) (fun W hSw => by clear hSw; go_simp) hS0 ?_
   simp only [Act.put, List.setIfInBounds_toArray, List.set_cons_zero, List.set_cons_succ]
   refine take_at 5 (some 67) (.int .i64 j) rfl rfl (by kernel_rfl) (by kernel_rfl) (by kernel_rfl) (fun _ _ _ h => h) (by rfl) (fun W hSw => by clear hSw; go_simp) hS0 ?_
   simp only [Act.put, List.setIfInBounds_toArray, List.set_cons_zero, List.set_cons_succ]
   refine take_at 6 (some 68) (.pointer (some ⟨b, off + j, none⟩)) rfl rfl (by kernel_rfl) (by kernel_rfl) (by kernel_rfl) (fun _ _ _ h => h) (by rfl) (fun W hSw => by clear hSw; go_simp) hS0 ?_
   simp only [Act.put, List.setIfInBounds_toArray, List.set_cons_zero, List.set_cons_succ]
   refine take_at 7 (some 69) (.pointer (some ⟨x, 0, none⟩)) rfl rfl (by kernel_rfl) (by kernel_rfl) (by kernel_rfl) (fun _ _ _ h => h) (by rfl) (fun W hSw => by obtain ⟨q0, q1, q2⟩ := hSw; go_simp) hS0 ?_
   simp only [Act.put, List.setIfInBounds_toArray, List.set_cons_zero, List.set_cons_succ]
   refine take_at 8 (some 70) (.pointer (some ⟨x, 0, none⟩)) rfl rfl (by kernel_rfl) (by kernel_rfl) (by kernel_rfl) (fun _ _ _ h => h) (by rfl) (fun W hSw => by clear hSw; go_simp) hS0 ?_
   simp only [Act.put, List.setIfInBounds_toArray, List.set_cons_zero, List.set_cons_succ]
   refine take_at 9 (some 71) (.pointer (some ⟨x, 0, none⟩)) rfl rfl (by kernel_rfl) (by kernel_rfl) (by kernel_rfl) (fun _ _ _ h => h) (by rfl) (fun W hSw => by clear hSw; go_simp) hS0 ?_
   simp only [Act.put, List.setIfInBounds_toArray, List.set_cons_zero, List.set_cons_succ]
   refine take_at 10 (some 72) (v) rfl rfl (by kernel_rfl) (by kernel_rfl) (by kernel_rfl) (fun _ _ _ h => h) (by rfl) (fun W hSw => by obtain ⟨q0, q1, q2⟩ := hSw; go_simp) hS0 ?_
   simp only [Act.put, List.setIfInBounds_toArray, List.set_cons_zero, List.set_cons_succ]
   refine wpAnyH_ready (rs := [11]) (by kernel_rfl) (by simp) ?_
   refine AllReadyH.cons rfl (fun K hK => ?_) AllReadyH.nil
   go_simp
   refine (Hc45.out _ u v j (Below.chain HB5.out (Below.chain hst.out hbd)) HLT.out (HL.out _ hbd).1 (HL.out _ hbd).2).mono ?_
   rintro e w6 ⟨rfl, hb6⟩
   have hB6 := Below.chain hst.out (Below.chain hbd hb6)
   have hS1 := HS.out _ (Below.chain hbd hb6)
   refine hK.out _ _ hS1 (fun _ => ?_)
   clear hK K
   refine take_at 12 (some 74) (.bool false) rfl rfl (by kernel_rfl) (by kernel_rfl) (by kernel_rfl) (fun _ _ _ h => h) (by rfl) (fun W hSw => by clear hSw; go_simp) hS1 ?_
   simp only [Act.put, List.setIfInBounds_toArray, List.set_cons_zero, List.set_cons_succ]
   refine wpAnyH_done (by kernel_rfl) ?_ _
   refine NoPanic.normal ?_
   have HB6 : Hid _ := hB6
   clear hS0 hS1 hbd hb6 hB6
   go_wp2
   go_roundw
   case rel => exact ⟨j + 1, by omega, by go_num, HB6.out⟩
   case measure => simp [intOf]; omega
  ·
   obtain rfl : j = N := by omega
   have hd : decide ((j : Int) < (j : Int)) = false := decide_eq_false (by omega)
   have hB6 := Below.chain HB5.out hst.out
   clear hst HSA HSB HB5
   go_wp2_with fail
   refine (Hc38.out _ hB6).mono ?_
   rintro e w7 ⟨⟨v, rfl, hfd⟩, hb7⟩
   have hB7 := Below.chain hB6 hb7
   have HF7 : Hid (∀ W, Below w7.heap.size w7 W → FD W v) := fun W hW => HhFD.out _ _ _ hfd hW
   clear hfd hb7 hB6
   go_wp2_with fail
   refine (Hc25.out _ hB7).mono ?_
   rintro e w8 ⟨rfl, hb8⟩
   go_upto_region 13 with fail
   have hc8 := Below.chain hb8 (bal (Below.refl w8.heap.size w8) (.cells #[.int .i64 t0, .bool o0, .int .i64 n0] 35))
   have hB8 := Below.chain hB7 hc8
   have HX8 : Hid (∀ W, Below (w8.alloc (.cells #[.int .i64 t0, .bool o0, .int .i64 n0] 35)).heap.size (w8.alloc (.cells #[.int .i64 t0, .bool o0, .int .i64 n0] 35)) W → Bs W w8.heap.size t0 o0 n0) := fun W hW => (Bs.new w8 t0 o0 n0).later hW
   have HF8 : Hid (∀ W, Below (w8.alloc (.cells #[.int .i64 t0, .bool o0, .int .i64 n0] 35)).heap.size (w8.alloc (.cells #[.int .i64 t0, .bool o0, .int .i64 n0] 35)) W → FD W v) := fun W hW => HF7.out _ (Below.chain hc8 hW)
   clear hb8 hc8 hB7 HF7
   generalize w8.heap.size = xb at *
   generalize w8.alloc (.cells #[.int .i64 t0, .bool o0, .int .i64 n0] 35) = w9 at *
   have c0 := HC0.out _ hB8
   go_wp2_with fail
   refine (Hc46.out _ v (HF8.out _ (Below.refl _ _))).mono ?_
   rintro e w10 ⟨rfl, hb10⟩
   clear c0
   go_upto_region 15 with fail
   have hc10 := Below.chain hb10 (bal (Below.refl w10.heap.size w10) (.cells #[.int .i64 t0, .bool o0, .int .i64 n0] 35))
   have hB10 := Below.chain hB8 hc10
   have HX10 : Hid (∀ W, Below (w10.alloc (.cells #[.int .i64 t0, .bool o0, .int .i64 n0] 35)).heap.size (w10.alloc (.cells #[.int .i64 t0, .bool o0, .int .i64 n0] 35)) W → Bs W xb t0 o0 n0 ∧ Bs W w10.heap.size t0 o0 n0) := fun W hW => ⟨HX8.out _ (Below.chain hc10 hW), (Bs.new w10 t0 o0 n0).later hW⟩
   have HF10 : Hid (∀ W, Below (w10.alloc (.cells #[.int .i64 t0, .bool o0, .int .i64 n0] 35)).heap.size (w10.alloc (.cells #[.int .i64 t0, .bool o0, .int .i64 n0] 35)) W → FD W v) := fun W hW => HF8.out _ (Below.chain hc10 hW)
   clear hb10 hc10 hB8 HF8 HX8
   generalize w10.heap.size = yb at *
   generalize w10.alloc (.cells #[.int .i64 t0, .bool o0, .int .i64 n0] 35) = w11 at *
   have hbd := (Below.refl w11.heap.size w11).drew
   have hBd := Below.chain hB10 hbd
   have hS0 : (fun W : World => W.cell? ⟨hb, 0, none⟩ = some (.int .i64 now)) _ := HC0.out _ hBd
   refine wp_region_noPanic ?_
   refine wp_region_held_drew (S := fun W : World => W.cell? ⟨hb, 0, none⟩ = some (.int .i64 now)) (by kernel_rfl) hS0 (fun _ => ?_)
   refine take_at 0 (some 96) (v) rfl rfl (by kernel_rfl) (by kernel_rfl) (by kernel_rfl) (fun _ _ _ h => h) (by rfl) (fun W hSw => by go_simp) hS0 ?_
   simp only [Act.put, List.setIfInBounds_toArray, List.set_cons_zero, List.set_cons_succ]
   refine take_at 1 (some 97) (.pointer (some ⟨hb, 0, none⟩)) rfl rfl (by kernel_rfl) (by kernel_rfl) (by kernel_rfl) (fun _ _ _ h => h) (by rfl) (fun W hSw => by go_simp) hS0 ?_
   simp only [Act.put, List.setIfInBounds_toArray, List.set_cons_zero, List.set_cons_succ]
   refine take_at 2 (some 98) (.pointer (some ⟨hb, 0, none⟩)) rfl rfl (by kernel_rfl) (by kernel_rfl) (by kernel_rfl) (fun _ _ _ h => h) (by rfl) (fun W hSw => by go_simp) hS0 ?_
   simp only [Act.put, List.setIfInBounds_toArray, List.set_cons_zero, List.set_cons_succ]
   refine take_at 3 (some 99) (.pointer (some ⟨hb, 0, none⟩)) rfl rfl (by kernel_rfl) (by kernel_rfl) (by kernel_rfl) (fun _ _ _ h => h) (by rfl) (fun W hSw => by go_simp) hS0 ?_
   simp only [Act.put, List.setIfInBounds_toArray, List.set_cons_zero, List.set_cons_succ]
   refine take_at 4 (some 100) (.int .i64 now) rfl rfl (by kernel_rfl) (by kernel_rfl) (by kernel_rfl) (fun _ _ _ h => h) (by rfl) (fun W hSw => by have q0 := hSw; go_simp) hS0 ?_
   simp only [Act.put, List.setIfInBounds_toArray, List.set_cons_zero, List.set_cons_succ]
   refine take_at 5 (some 101) (.int .i64 k) rfl rfl (by kernel_rfl) (by kernel_rfl) (by kernel_rfl) (fun _ _ _ h => h) (by rfl) (fun W hSw => by go_simp) hS0 ?_
   simp only [Act.put, List.setIfInBounds_toArray, List.set_cons_zero, List.set_cons_succ]
   refine take_at 6 (some 102) (.int .i64 (now - k)) rfl rfl (by kernel_rfl) (by kernel_rfl) (by kernel_rfl) (fun _ _ _ h => h) (by rfl) (fun W hSw => by go_simp; exact HEW.out) hS0 ?_
   simp only [Act.put, List.setIfInBounds_toArray, List.set_cons_zero, List.set_cons_succ]
   refine take_at 7 (some 103) (.pointer (some ⟨hb, 0, none⟩)) rfl rfl (by kernel_rfl) (by kernel_rfl) (by kernel_rfl) (fun _ _ _ h => h) (by rfl) (fun W hSw => by go_simp) hS0 ?_
   simp only [Act.put, List.setIfInBounds_toArray, List.set_cons_zero, List.set_cons_succ]
   refine take_at 8 (some 104) (.pointer (some ⟨hb, 0, none⟩)) rfl rfl (by kernel_rfl) (by kernel_rfl) (by kernel_rfl) (fun _ _ _ h => h) (by rfl) (fun W hSw => by go_simp) hS0 ?_
   simp only [Act.put, List.setIfInBounds_toArray, List.set_cons_zero, List.set_cons_succ]
   refine take_at 9 (some 105) (.pointer (some ⟨hb, 0, none⟩)) rfl rfl (by kernel_rfl) (by kernel_rfl) (by kernel_rfl) (fun _ _ _ h => h) (by rfl) (fun W hSw => by go_simp) hS0 ?_
   simp only [Act.put, List.setIfInBounds_toArray, List.set_cons_zero, List.set_cons_succ]
   refine take_at 10 (some 106) (.int .i64 now) rfl rfl (by kernel_rfl) (by kernel_rfl) (by kernel_rfl) (fun _ _ _ h => h) (by rfl) (fun W hSw => by have q0 := hSw; go_simp) hS0 ?_
   simp only [Act.put, List.setIfInBounds_toArray, List.set_cons_zero, List.set_cons_succ]
   refine wpAnyH_ready (rs := [11]) (by kernel_rfl) (by simp) ?_
   refine AllReadyH.cons rfl (fun K hK => ?_) AllReadyH.nil
   go_simp
   refine (Hc47.out _ v (HF10.out _ hbd)).mono ?_
   rintro e w12 ⟨⟨ao2, ca2, rfl, hma⟩, hb12⟩
   have hB12 := Below.chain hBd hb12
   have hS1 := HC0.out _ hB12
   refine hK.out _ _ hS1 (fun _ => ?_)
   clear hK K
   refine take_at 12 (some 20) (.slice ao2 nA ca2) rfl rfl (by kernel_rfl) (by kernel_rfl) (by kernel_rfl) (fun _ _ _ h => h) (by rfl) (fun W hSw => by go_simp) hS1 ?_
   simp only [Act.put, List.setIfInBounds_toArray, List.set_cons_zero, List.set_cons_succ]
   refine wpAnyH_done (by kernel_rfl) ?_ _
   refine NoPanic.normal ?_
   have HM12 : Hid (∀ W, Below w12.heap.size w12 W → MA W ao2) := fun W hW => HhMA.out _ _ _ hma hW
   have hx12 := HX10.out _ (Below.chain hbd hb12)
   clear hS0 hS1 hbd hBd hb12 hB10 HX10 HF10 hma
   obtain ⟨⟨x0, x1, x2⟩, y0, y1, y2⟩ := hx12
   go_upto_region 16 with fail
   go_cut [20, 127] from 16 to 18 (fun v z wx => v = .slice ao2 nA ca2 ∧ z = .bool false ∧ Hid (Below w12.heap.size w12 wx))
   case first =>
    cases z0 with
    | false =>
     go_wp2_with fail
     refine (Hc20.out _ hB12).mono ?_
     rintro e w13 ⟨⟨ao3, ca3, rfl, hma3⟩, hb13⟩
     go_wp2_with fail
     refine (Hc48.out _ ao3 ao2 ca3 ca2 hma3 (HM12.out _ hb13)).mono ?_
     rintro e w14 ⟨rfl, hb14⟩
     have HBM : Hid (Below w12.heap.size w12 w14) := Below.chain hb13 hb14
     clear hb13 hb14 hma3
     go_wp2_with fail
     go_meet
     case rel => exact ⟨rfl, rfl, HBM⟩
    | true =>
     go_wp2_with fail
     refine (Hc20.out _ hB12).mono ?_
     rintro e w13 ⟨⟨ao3, ca3, rfl, hma3⟩, hb13⟩
     go_wp2_with fail
     refine (Hc48.out _ ao3 ao2 ca3 ca2 hma3 (HM12.out _ hb13)).mono ?_
     rintro e w14 ⟨rfl, hb14⟩
     have HBM : Hid (Below w12.heap.size w12 w14) := Below.chain hb13 hb14
     clear hb13 hb14 hma3
     go_wp2_with fail
     go_meet
     case rel => exact ⟨rfl, rfl, HBM⟩
   case rest =>
    obtain ⟨rfl, rfl, hbw⟩ := hcut
    have hB14 := Below.chain hB12 hbw.out
    have HM14 : Hid _ := fun W hW => HM12.out W (Below.chain hbw.out hW)
    clear hbw HM12 hB12 x0 x1 x2 y0 y1 y2
    go_wp2_with fail
    refine (Hy.names_any _).mono ?_
    rintro e w15 ⟨rfl, hb15⟩
    dsimp only [Hy.namesV]
    go_upto_region 19 with fail
    have hc15 := Below.chain hb15 (bal (Below.refl w15.heap.size w15) (.cells #[.string ⟨#[115, 117, 109]⟩, .string ⟨#[97, 118, 103]⟩, .string ⟨#[109, 105, 110]⟩, .string ⟨#[109, 97, 120]⟩, .string ⟨#[99, 111, 117, 110, 116]⟩, .string ⟨#[108, 97, 115, 116]⟩, .string ⟨#[105, 110, 99, 114, 101, 97, 115, 101]⟩, .string ⟨#[114, 97, 116, 101]⟩, .string ⟨#[100, 101, 108, 116, 97]⟩, .string ⟨#[119, 104, 97, 116]⟩] 101))
    have HB15 : Hid _ := Below.chain hB14 hc15
    have HN : Hid (∀ W, Below (w15.alloc (.cells #[.string ⟨#[115, 117, 109]⟩, .string ⟨#[97, 118, 103]⟩, .string ⟨#[109, 105, 110]⟩, .string ⟨#[109, 97, 120]⟩, .string ⟨#[99, 111, 117, 110, 116]⟩, .string ⟨#[108, 97, 115, 116]⟩, .string ⟨#[105, 110, 99, 114, 101, 97, 115, 101]⟩, .string ⟨#[114, 97, 116, 101]⟩, .string ⟨#[100, 101, 108, 116, 97]⟩, .string ⟨#[119, 104, 97, 116]⟩] 101)).heap.size (w15.alloc (.cells #[.string ⟨#[115, 117, 109]⟩, .string ⟨#[97, 118, 103]⟩, .string ⟨#[109, 105, 110]⟩, .string ⟨#[109, 97, 120]⟩, .string ⟨#[99, 111, 117, 110, 116]⟩, .string ⟨#[108, 97, 115, 116]⟩, .string ⟨#[105, 110, 99, 114, 101, 97, 115, 101]⟩, .string ⟨#[114, 97, 116, 101]⟩, .string ⟨#[100, 101, 108, 116, 97]⟩, .string ⟨#[119, 104, 97, 116]⟩] 101)) W → ∀ i, i < 10 → W.cell? ⟨w15.heap.size, i, none⟩ = some (nmV i)) := fun W hW i hi => (hW.cell (p := ⟨w15.heap.size, i, none⟩) (World.block_lt_of_cell? _ _ (nm_cell w15 i hi))).trans (nm_cell w15 i hi)
    have HM15 : Hid (∀ W, Below (w15.alloc (.cells #[.string ⟨#[115, 117, 109]⟩, .string ⟨#[97, 118, 103]⟩, .string ⟨#[109, 105, 110]⟩, .string ⟨#[109, 97, 120]⟩, .string ⟨#[99, 111, 117, 110, 116]⟩, .string ⟨#[108, 97, 115, 116]⟩, .string ⟨#[105, 110, 99, 114, 101, 97, 115, 101]⟩, .string ⟨#[114, 97, 116, 101]⟩, .string ⟨#[100, 101, 108, 116, 97]⟩, .string ⟨#[119, 104, 97, 116]⟩] 101)).heap.size (w15.alloc (.cells #[.string ⟨#[115, 117, 109]⟩, .string ⟨#[97, 118, 103]⟩, .string ⟨#[109, 105, 110]⟩, .string ⟨#[109, 97, 120]⟩, .string ⟨#[99, 111, 117, 110, 116]⟩, .string ⟨#[108, 97, 115, 116]⟩, .string ⟨#[105, 110, 99, 114, 101, 97, 115, 101]⟩, .string ⟨#[114, 97, 116, 101]⟩, .string ⟨#[100, 101, 108, 116, 97]⟩, .string ⟨#[119, 104, 97, 116]⟩] 101)) W → MA W ao2) := fun W hW => HM14.out _ (Below.chain hc15 hW)
    clear hb15 hc15 hB14 HM14
    generalize w15.heap.size = nb at *
    generalize w15.alloc (.cells #[.string ⟨#[115, 117, 109]⟩, .string ⟨#[97, 118, 103]⟩, .string ⟨#[109, 105, 110]⟩, .string ⟨#[109, 97, 120]⟩, .string ⟨#[99, 111, 117, 110, 116]⟩, .string ⟨#[108, 97, 115, 116]⟩, .string ⟨#[105, 110, 99, 114, 101, 97, 115, 101]⟩, .string ⟨#[114, 97, 116, 101]⟩, .string ⟨#[100, 101, 108, 116, 97]⟩, .string ⟨#[119, 104, 97, 116]⟩] 101) = w16 at *
    go_wp2
    go_loopw [22] (fun x wr => ∃ i : Nat, i ≤ 10 ∧ x = .int .i64 i ∧ Hid (Below w16.heap.size w16 wr)) (fun x _ => 10 - (intOf x).toNat)
    case atStart => exact ⟨0, by omega, rfl, Below.refl _ _⟩
    case round =>
     obtain ⟨i, hi, rfl, hst⟩ := hrel
     by_cases hlt : i < 10
     ·
      have hd : decide ((i : Int) < 10) = true := decide_eq_true (by omega)
      have hdn : decide (10 ≤ (i : Int)) = false := decide_eq_false (by omega)
      obtain ⟨tt, hT⟩ : ∃ t, T i = t := ⟨_, rfl⟩
      have hc := Hc21.out _ i (Below.chain HB15.out hst.out)
      have h50 : ∀ W a ca, MA W a → Calls Tryz.prog 50 #[.slice a nA ca, nmV i, .int .i64 k] W fun e w' => e = .returned (ansT tt) ∧ Below W.heap.size W w' := fun W a ca hW => by rw [← hT]; exact Hc50.out W i a ca hW
      have HC50 : Hid _ := h50
      have HNI : Hid (∀ W, Below w16.heap.size w16 W → W.cell? ⟨nb, i, none⟩ = some (nmV i)) := fun W hW => HN.out W hW i hlt
      rw [hT] at hc
      clear h50 hT
      generalize nmV i = nm at *
      obtain ⟨ot, nt, zt⟩ := tt
      have c1 := HNI.out _ hst.out
      go_wp2_with fail
      refine hc.mono ?_
      rintro e w17 ⟨rfl, hb17⟩
      clear hc c1
      dsimp only [ansT]
      go_upto_region 23 with fail
      have hc17 := Below.chain hb17 (bal (Below.refl w17.heap.size w17) (.cells #[.bool ot, .int .i64 nt] 33))
      have hB17 := Below.chain hst.out hc17
      have HX17 : Hid (∀ W, Below (w17.alloc (.cells #[.bool ot, .int .i64 nt] 33)).heap.size (w17.alloc (.cells #[.bool ot, .int .i64 nt] 33)) W → Bn W w17.heap.size ot nt) := fun W hW => (Bn.new w17 ot nt).later hW
      clear hb17 hc17 hst
      generalize w17.heap.size = xc at *
      generalize w17.alloc (.cells #[.bool ot, .int .i64 nt] 33) = w18 at *
      have c1 := HNI.out _ hB17
      go_wp2_with fail
      refine (HC50.out _ ao2 ca2 (HM15.out _ hB17)).mono ?_
      rintro e w19 ⟨rfl, hb19⟩
      clear c1
      dsimp only [ansT]
      go_upto_region 24 with fail
      have hc19 := Below.chain hb19 (bal (Below.refl w19.heap.size w19) (.cells #[.bool ot, .int .i64 nt] 33))
      have HB19 : Hid _ := Below.chain hB17 hc19
      have hx := HX17.out _ hc19
      have hy : Bn (w19.alloc (.cells #[.bool ot, .int .i64 nt] 33)) w19.heap.size ot nt := Bn.new w19 ot nt
      clear hb19 hc19 hB17 HX17 HNI HC50
      generalize w19.heap.size = yc at *
      generalize w19.alloc (.cells #[.bool ot, .int .i64 nt] 33) = w20 at *
      obtain ⟨x0, x1⟩ := hx
      obtain ⟨y0, y1⟩ := hy
      cases zt with
      | false =>
       go_wp2
       go_roundw
       case rel => exact ⟨i + 1, by omega, by go_num, HB19.out⟩
       case measure => simp [intOf]; omega
      | true =>
       go_wp2
       go_roundw
       case rel => exact ⟨i + 1, by omega, by go_num, HB19.out⟩
       case measure => simp [intOf]; omega
     ·
      obtain rfl : i = 10 := by omega
      have hd : decide (((10 : Nat) : Int) < 10) = false := by decide
      have HBE : Hid _ := Below.chain HB15.out hst.out
      go_wp2
      all_goals
       go_ret
       exact ⟨rfl, HBE.out⟩
end Go.Proofs.YtjgckfcocmhnhaaGreatDoor.Sp
