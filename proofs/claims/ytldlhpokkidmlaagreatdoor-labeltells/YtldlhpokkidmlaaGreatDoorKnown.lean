/- What is known of label sets: true. -/
import Derived.Test.YtldlhpokkidmlaaGreatDoorParse
namespace Go.Proofs.YtldlhpokkidmlaaGreatDoor
open Go.RowKit

def kL : List Pr := [(nm, [117, 112]), ([106, 111, 98], [97])]
def kT : Str := [117, 112, 123, 106, 111, 98, 61, 34, 97, 34, 125]
theorem k_make : makeE [([106, 111, 98], [97]), (nm, [117, 112])] = 0 ∧ makeL [([106, 111, 98], [97]), (nm, [117, 112])] = kL := by decide +kernel
theorem k_twice : makeE [([97], [120]), ([97], [])] = 31 ∧ makeL [([97], [120]), ([97], [])] = [] := by decide +kernel
theorem k_is : fIs kL = true := by decide +kernel
theorem k_print : fPrint kL = kT := by decide +kernel
theorem k_parse : parseE kT = 0 ∧ parseL kT = kL := by
  rw [← k_print]
  exact (parse_print k_is).2
theorem k_nil : fPrint [] = [123, 125] := by decide +kernel
theorem k_get : fGet kL [106, 111, 98] = [97] := by decide +kernel
theorem k_without : (fWithout kL []).length = 1 := by decide +kernel
theorem k_cmp : fCmp kL kL = 0 := (fCmp_zero _ _).2 rfl
theorem Ps.two (w : World) (p q : Pr) : Ps (w.alloc (.cells #[tx p.1, tx p.2, tx q.1, tx q.2] 43)) (some ⟨w.heap.size, 0, none⟩) 2 [p, q] := by
  refine ⟨rfl, fun _ => ⟨_, 0, rfl, fun j hj => ?_⟩⟩
  have : j = 0 ∨ j = 1 := by omega
  rcases this with rfl | rfl <;> constructor <;> simp [go_sem]
theorem Ps.one (w : World) (p : Pr) : Ps (w.alloc (.cells #[tx p.1, tx p.2] 43)) (some ⟨w.heap.size, 0, none⟩) 1 [p] := by
  refine ⟨rfl, fun _ => ⟨_, 0, rfl, fun j hj => ?_⟩⟩
  obtain rfl : j = 0 := by omega
  constructor <;> simp [go_sem]
theorem Fit.small {l : List Pr} (h : ∀ p ∈ l, p.1.length ≤ 1000 ∧ p.2.length ≤ 1000) : Fit l := fun p hp => by have := h p hp; omega
set_option maxRecDepth 20000 in
set_option maxHeartbeats 4000000 in
theorem known_any (w : World) (hm : Mx w) : Calls Tryz.prog 4 #[] w fun e w' => e = .returned (.bool true) ∧ Below w.heap.size w w' := by
  have f1 : Fit [([106, 111, 98], [97]), (nm, [117, 112])] := Fit.small (by decide)
  have f2 : Fit [([97], [120]), ([97], [])] := Fit.small (by decide)
  have f3 : Fit kL := Fit.small (by decide)
  have hm1 := make_any _ 2 2 _ _ (by omega) f1 (Ps.two w ([106, 111, 98], [97]) (nm, [117, 112]))
  rw [k_make.1, k_make.2] at hm1
  have hm2 := fun W => make_any _ 2 2 _ _ (by omega) f2 (Ps.two W ([97], [120]) ([97], []))
  rw [k_twice.1, k_twice.2] at hm2
  have hp := fun W (h : Mx W) => parse_any kT W (by decide) h
  rw [k_parse.1, k_parse.2] at hp
  have hpr := fun (W : World) (h : Mx W) (xa : Option Addr) (c : Nat) (hps : Ps W xa 2 kL) => print_any xa 2 c kL W (by omega) f3 h hps
  rw [k_print] at hpr
  have hpn := fun (W : World) (h : Mx W) => print_any none 0 0 [] W (by omega) (Fit.small (by simp)) h (Ps.nil _ _)
  rw [k_nil] at hpn
  have hcm := fun (W : World) (xa ya : Option Addr) (c d : Nat) (h1 : Ps W xa 2 kL) (h2 : Ps W ya 2 kL) => cmp_any xa 2 c kL ya 2 d kL W (by omega) (by omega) h1 h2
  rw [k_cmp] at hcm
  have hgt := fun (W : World) (xa : Option Addr) (c : Nat) (h1 : Ps W xa 2 kL) => get_any xa 2 c kL [106, 111, 98] W (by omega) h1
  rw [k_get] at hgt
  have hwo := fun (W : World) (xa : Option Addr) (c : Nat) (h1 : Ps W xa 2 kL) => without_any xa 2 c kL none 0 0 [] W (by omega) (by omega) h1 (Ss.nil _ _)
  go_enter Tryz.func4, Tryz.ntmps4
  go_wp2_with fail
  refine hm1.mono ?_
  rintro e w1 ⟨v1, rfl, ho1, hb1⟩
  have hb01 : Below w.heap.size w w1 := Below.chain (bal (Below.refl _ _) _) hb1
  obtain ⟨a1, c1, rfl, h1⟩ := ho1.fitN
  have h1' : Ps w1 a1 2 kL := h1
  clear hm1 ho1 h1 hb1
  go_wp2_with fail
  refine (hm2 w1).mono ?_
  rintro e w2 ⟨v2, rfl, _, hb2⟩
  have hb12 : Below w1.heap.size w1 w2 := Below.chain (bal (Below.refl _ _) _) hb2
  have hb02 := Below.chain hb01 hb12
  have h2' := h1'.later hb12
  clear hm2 h1' hb01 hb12 hb2
  go_wp2_with fail
  refine (hp w2 (hm.later hb02)).mono ?_
  rintro e w3 ⟨v3, rfl, ho3, hb3⟩
  have hb03 := Below.chain hb02 hb3
  have h3' := h2'.later hb3
  obtain ⟨a3, c3, rfl, k3⟩ := ho3.fitN
  have k3' : Ps w3 a3 2 kL := k3
  clear hp h2' hb02 hb3 k3 ho3
  go_wp2_with fail
  refine (hpr w3 (hm.later hb03) a1 c1 h3').mono ?_
  rintro e w4 ⟨rfl, hb4⟩
  have hb04 := Below.chain hb03 hb4
  have h4' := h3'.later hb4
  have k4' := k3'.later hb4
  clear hpr hb03 h3' k3' hb4
  go_wp2_with fail
  refine (hcm w4 a1 a3 _ _ h4' k4').mono ?_
  rintro e w5 ⟨rfl, hb5⟩
  have hb05 := Below.chain hb04 hb5
  have h5' := h4'.later hb5
  clear hcm hb04 hb5 h4' k4'
  go_wp2_with fail
  refine (hpn w5 (hm.later hb05)).mono ?_
  rintro e w6 ⟨rfl, hb6⟩
  have hb06 := Below.chain hb05 hb6
  have h6' := h5'.later hb6
  clear hpn hb05 hb6 h5'
  go_wp2_with fail
  refine (hgt w6 a1 _ h6').mono ?_
  rintro e w7 ⟨rfl, hb7⟩
  have hb07 := Below.chain hb06 hb7
  have h7' := h6'.later hb7
  clear hgt hb06 hb7 h6'
  go_wp2_with fail
  refine (hwo w7 a1 _ h7').mono ?_
  rintro e w8 ⟨v8, rfl, ho8, hb8⟩
  obtain ⟨a8, c8, rfl, _⟩ := ho8.fitN
  rw [k_without]
  go_wp2
  go_ret
  exact ⟨rfl, Below.chain hb07 hb8⟩
end Go.Proofs.YtldlhpokkidmlaaGreatDoor
