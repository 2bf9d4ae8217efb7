/- Texts that the others lean on. -/
import Derived.Test.YteankdaegdhfiaaGreatDoorKMP
import Derived.Test.YteankdaegdhfiaaGreatDoorKML
namespace Go.Proofs.YteankdaegdhfiaaGreatDoor
open Go.RowKit
def KT : Str := [97, 32, 43, 32, 98, 32, 42, 32, 45, 50, 32, 62, 32, 115, 117, 109, 32, 98, 121, 32, 40, 120, 41, 32, 40, 114, 97, 116, 101, 40, 99, 123, 100, 94, 61, 34, 101, 34, 125, 91, 53, 116, 93, 41, 41]
def KP : Str := [40, 40, 97, 32, 43, 32, 40, 98, 32, 42, 32, 45, 50, 41, 41, 32, 62, 32, 115, 117, 109, 32, 98, 121, 32, 40, 120, 41, 32, 40, 114, 97, 116, 101, 40, 99, 123, 100, 94, 61, 34, 101, 34, 125, 91, 53, 116, 93, 41, 41, 41]
theorem k71 : psE [40, 97] = 71 := by kernel_rfl
theorem kA : psA [40, 97] = 2 := by kernel_rfl
theorem kE : psE KT = 0 := by kernel_rfl
theorem kSz : sz (psX KT) = 10 := evE_ok szG 20 _ _ (by kernel_rfl)
theorem kSnd : sndE (psX KT) = true := evE_ok sndG 20 _ _ (by kernel_rfl)
theorem kIs : isE (psX KT) = true := by
 unfold isE
 rw [kSz, kSnd]
 rfl
theorem kMet : metE (psX KT) = [[97], [98], [99]] := evE_ok metG 20 _ _ (by kernel_rfl)
theorem kPr : pr9 (psX KT) = KP := evE_ok prG 20 _ _ (by kernel_rfl)
end Go.Proofs.YteankdaegdhfiaaGreatDoor
namespace Go.Proofs.YteankdaegdhfiaaGreatDoor
open Go.RowKit
def smG9 (e : Ex) (l : List Bool) : Bool := decide (e.s.length ≤ 1000000) && e.m.all (fun x => decide (x.name.length ≤ 1000000) && decide (x.text.length ≤ 1000000)) && e.ns.all (fun x => decide (x.length ≤ 1000000)) && decide (e.m.length ≤ 1000000) && decide (e.ns.length ≤ 1000000) && decide (e.ks.length ≤ 1000000) && decide (-9223372036854775808 ≤ e.v) && decide (e.v ≤ 9223372036854775807) && l.all fun x => x
def smB (e : Ex) : Bool := foldE smG9 e
def smBL : List Ex → Bool
 | [] => true
 | x :: l => smB x && smBL l
theorem smBL_eq : ∀ l, smBL l = l.all smB
 | [] => by rw [smBL]; rfl
 | x :: l => by rw [smBL, smBL_eq l, List.all_cons]
theorem smB_mk (k p : Int) (o : Bool) (v : Int) (s : Str) (m : List Mt) (r : Int) (b1 b2 b3 b4 : Bool) (ns : List Str) (ks : List Ex) : smB ⟨k, p, o, v, s, m, r, b1, b2, b3, b4, ns, ks⟩ = (decide (s.length ≤ 1000000) && m.all (fun x => decide (x.name.length ≤ 1000000) && decide (x.text.length ≤ 1000000)) && ns.all (fun x => decide (x.length ≤ 1000000)) && decide (m.length ≤ 1000000) && decide (ns.length ≤ 1000000) && decide (ks.length ≤ 1000000) && decide (-9223372036854775808 ≤ v) && decide (v ≤ 9223372036854775807) && smBL ks) := by
 have h : smB ⟨k, p, o, v, s, m, r, b1, b2, b3, b4, ns, ks⟩ = smG9 ⟨k, p, o, v, s, m, r, b1, b2, b3, b4, ns, ks⟩ (ks.map smB) := by
  show foldE smG9 _ = _
  rw [foldE_eq]
  rfl
 rw [h, smBL_eq]
 unfold smG9
 rw [List.all_map]
 rfl
theorem smB_ok (e : Ex) : smB e = true → Sm e ∧ Vr e := by
 refine Ex.ind (fun e => smB e = true → Sm e ∧ Vr e) ?_ e
 intro e ih h
 obtain ⟨k, p, o, v, s, m, r, b1, b2, b3, b4, ns, ks⟩ := e
 rw [smB_mk, smBL_eq] at h
 simp only [Bool.and_eq_true, decide_eq_true_eq, List.all_eq_true] at h
 obtain ⟨⟨⟨⟨⟨⟨⟨⟨h1, h2⟩, h3⟩, h4⟩, h5⟩, h6⟩, h7⟩, h8⟩, h9⟩ := h
 refine ⟨(Sm_eq _).2 ⟨?_, ?_, ?_, by show m.length ≤ _; omega, by show ns.length ≤ _; omega, by show ks.length ≤ _; omega, fun x hx => (ih x hx (h9 x hx)).1⟩, (Vr_eq _).2 ⟨⟨h7, h8⟩, fun x hx => (ih x hx (h9 x hx)).2⟩⟩
 ·
  show s.length ≤ _; omega
 ·
  intro x hx
  have := h2 x hx
  exact ⟨by show x.name.length ≤ _; omega, by show x.text.length ≤ _; omega⟩
 ·
  intro x hx
  have := h3 x hx
  show x.length ≤ _
  omega
theorem kSm : smB (psX KT) = true := evE_ok smG9 20 _ _ (by kernel_rfl)
theorem kMets : (mets (psX KT)).length = 3 := by
 unfold mets
 rw [kMet, List.mergeSort_of_pairwise (by decide)]
 kernel_rfl
theorem kPrE : prE (psX KT) = KP := by
 unfold prE
 rw [kIs, kPr]
 rfl
set_option maxHeartbeats 4000000 in
theorem known_any (w : World) (he : Ev w) : Calls Tryz.prog 12 #[] w fun e w' => e = .returned (.bool true) ∧ Below w.heap.size w w' := by
 have hp1 := parse_any KT w (by decide) he
 have hS := smB_ok _ kSm
 have hpr := fun W cs (h : Tr w.heap.size W (psX KT) cs) hE => print9_any h hS.1 hS.2 (by rw [kPr]; decide) hE
 have hme := fun W cs (h : Tr w.heap.size W (psX KT) cs) => metrics_any h hS.1 (by rw [kMet]; decide)
 have his := fun W cs (h : Tr w.heap.size W (psX KT) cs) => isE_any h hS.1
 simp only [kPrE, KP] at hpr
 simp only [kMets] at hme
 simp only [kIs] at his
 rw [kE] at hp1
 clear hS
 generalize psX KT = X at *
 go_enter Tryz.func12, Tryz.ntmps12
 go_wp2_with fail
 refine hp1.mono ?_
 rintro e w1 ⟨cs, rfl, t1, b1⟩
 have he1 := he.later b1
 have q0 := heap_new w1 (.cells zE 29)
 have Ba := bal b1 (.cells zE 29)
 have hp2 := fun W hE => parse_any [40, 97] W (by decide) hE
 simp only [kA, k71] at hp2
 have T1 : Hid _ := t1
 obtain ⟨vm, vn, ao, cap, rfl, sm, sn, _, _⟩ := t1.parts
 obtain ⟨am, cm, rfl, _⟩ := sm
 obtain ⟨an, cn, rfl, _⟩ := sn
 clear hp1
 go_wp2_with (refine wp_put rfl 29 _ _ rfl w1.heap.size (exA X.k X.p X.o X.v X.s (.slice am X.m.length cm) X.r X.b1 X.b2 X.b3 X.b4 (.slice an X.ns.length cn) (.slice ao X.ks.length cap)) rfl rfl _ 29 q0 13 inf29 rfl ⟨rfl, rfl⟩ ?_; intro w2 q2 o2 z2; clear z2)
 have B2 := ((Off.of Ba []).trans o2 (by simp; exact b1.size)).below (by simp)
 have D2 : Below w1.heap.size w1 w2 := ((Off.of (bal (Below.refl w1.heap.size w1) (.cells zE 29)) []).trans o2 (by simp)).below (by simp)
 refine (hp2 w2 (he.later B2)).mono ?_
 rintro e w3 ⟨cs3, rfl, t3, b3⟩
 have row3 := t3.row
 have B3 := B2.trans (b3.mono B2.size)
 have D3 := D2.trans (b3.mono D2.size)
 have q3 := below_heap b3 q2
 have q4 := heap_new w3 (.cells zE 29)
 have q3' := below_heap (bal (Below.refl w3.heap.size w3) (.cells zE 29)) q3
 have hlt := lt_of_heap q3
 have zB := B3.size
 have zD := D3.size
 clear hp2 t3 b3 q0 q2 o2 Ba
 go_wp2_with (refine wp_put rfl 29 _ _ rfl w3.heap.size cs3 rfl rfl _ 29 q4 13 inf29 rfl row3 ?_; intro w5 q5 o5 z5; clear z5; have q6 := o5.heap q3' (by simp <;> omega); have x0 := (cell_at q6 0).trans rfl; have x1 := (cell_at q6 1).trans rfl; have x2 := (cell_at q6 2).trans rfl; have x3 := (cell_at q6 3).trans rfl; have x4 := (cell_at q6 4).trans rfl; have x5 := (cell_at q6 5).trans rfl; have x6 := (cell_at q6 6).trans rfl; have x7 := (cell_at q6 7).trans rfl; have x8 := (cell_at q6 8).trans rfl; have x9 := (cell_at q6 9).trans rfl; have x10 := (cell_at q6 10).trans rfl; have x11 := (cell_at q6 11).trans rfl; have x12 := (cell_at q6 12).trans rfl)
 have B5 := ((Off.of (bal B3 (.cells zE 29)) []).trans o5 (by simp <;> omega)).below (by simp)
 have D5 := ((Off.of (bal D3 (.cells zE 29)) []).trans o5 (by simp <;> omega)).below (by simp)
 refine (hpr w5 _ (TrP.later T1.out D5) (he.later B5)).mono ?_
 rintro e w6 ⟨rfl, b6⟩
 have B6 := B5.trans (b6.mono B5.size)
 have D6 := D5.trans (b6.mono D5.size)
 have q7 := below_heap b6 q6
 clear x0 x1 x2 x3 x4 x5 x6 x7 x8 x9 x10 x11 x12 q5 o5 q4 q3 q3' hpr
 have y0 := (cell_at q7 0).trans rfl
 have y1 := (cell_at q7 1).trans rfl
 have y2 := (cell_at q7 2).trans rfl
 have y3 := (cell_at q7 3).trans rfl
 have y4 := (cell_at q7 4).trans rfl
 have y5 := (cell_at q7 5).trans rfl
 have y6 := (cell_at q7 6).trans rfl
 have y7 := (cell_at q7 7).trans rfl
 have y8 := (cell_at q7 8).trans rfl
 have y9 := (cell_at q7 9).trans rfl
 have y10 := (cell_at q7 10).trans rfl
 have y11 := (cell_at q7 11).trans rfl
 have y12 := (cell_at q7 12).trans rfl
 go_wp2_with fail
 refine (hme w6 _ (TrP.later T1.out D6)).mono ?_
 rintro e w7 ⟨v7, rfl, s7, b7⟩
 obtain ⟨a7, c7, rfl, _⟩ := s7
 have B7 := B6.trans (b7.mono B6.size)
 have D7 := D6.trans (b7.mono D6.size)
 have q8 := below_heap b7 q7
 clear y0 y1 y2 y3 y4 y5 y6 y7 y8 y9 y10 y11 y12 hme
 have z0 := (cell_at q8 0).trans rfl
 have z1 := (cell_at q8 1).trans rfl
 have z2 := (cell_at q8 2).trans rfl
 have z3 := (cell_at q8 3).trans rfl
 have z4 := (cell_at q8 4).trans rfl
 have z5 := (cell_at q8 5).trans rfl
 have z6 := (cell_at q8 6).trans rfl
 have z7 := (cell_at q8 7).trans rfl
 have z8 := (cell_at q8 8).trans rfl
 have z9 := (cell_at q8 9).trans rfl
 have z10 := (cell_at q8 10).trans rfl
 have z11 := (cell_at q8 11).trans rfl
 have z12 := (cell_at q8 12).trans rfl
 go_wp2_with fail
 refine (his w7 _ (TrP.later T1.out D7)).mono ?_
 rintro e w8 ⟨rfl, b8⟩
 have B8 := B7.trans (b8.mono B7.size)
 go_wp2_with fail
 go_ret
 exact ⟨rfl, B8⟩
end Go.Proofs.YteankdaegdhfiaaGreatDoor
