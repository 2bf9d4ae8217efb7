/- TypesKids: for every input the law returns true, and its arguments read as they did: the row, and its card, tied to the program's text. Conditions: none beyond the card's own. -/
import Derived.Test.YteankdaegdhfiaaGreatDoorMT
import Derived.Test.YteankdaegdhfiaaGreatDoorML
import Derived.Test.YteankdaegdhfiaaGreatDoorMP
import Derived.Test.YteankdaegdhfiaaGreatDoorMU
import Derived.Test.YteankdaegdhfiaaGreatDoorTie
import Derived.Test.YteankdaegdhfiaaGreatDoorCards
/- What is made round an expression: its type, in plain words. -/
namespace Go.Proofs.YteankdaegdhfiaaGreatDoor
open Go.RowKit

theorem ty_call (p : Int) (nm : Str) (e : Ex) (hk : knw nm = true) : tyE (eCall p nm e) = if (tyE e).2.2 ≠ 0 then (0, (tyE e).2) else if (tyE e).1 = 3 then (2, 0, 0) else (0, e.p, 90) := by
  rw [tyE_eq]
  unfold tyG eCall
  rw [if_neg (by simp [hk])]
  by_cases h : (tyE e).2.2 = 0
  · by_cases h3 : (tyE e).1 = 3
    · simp [badT, h, h3, fitT, misP, takesB, isT]
    · simp [badT, h, h3, fitT, misP, takesB]
  · simp [badT, h]
theorem ty_odd (p : Int) (nm : Str) (e : Ex) (hk : knw nm = false) : tyE (eCall p nm e) = (0, p, 91) := by
  rw [tyE_eq]
  unfold tyG eCall
  rw [if_pos ⟨rfl, hk⟩]
theorem ty_agg (p : Int) (nm : Str) (e : Ex) : tyE (eAgg p nm false false [] e) = if (tyE e).2.2 ≠ 0 then (0, (tyE e).2) else if (tyE e).1 = 2 then (2, 0, 0) else (0, e.p, 90) := by
  rw [tyE_eq]
  unfold tyG eAgg
  rw [if_neg (by simp)]
  by_cases h : (tyE e).2.2 = 0
  · by_cases h3 : (tyE e).1 = 2
    · simp [badT, h, h3, fitT, misP, takesB, isT]
    · simp [badT, h, h3, fitT, misP, takesB]
  · simp [badT, h]
theorem ty_bin (p : Int) (nm : Str) (a b : Ex) : tyE (eBin p nm false false [] a b) = if (tyE a).2.2 ≠ 0 then (0, (tyE a).2) else if (tyE b).2.2 ≠ 0 then (0, (tyE b).2) else if takesB 5 (tyE a).1 = false then (0, a.p, 90) else if takesB 5 (tyE b).1 = false then (0, b.p, 90) else if (cmpB nm && allT 1 [(tyE a).1, (tyE b).1]) = true then (0, p, 90) else (if allT 1 [(tyE a).1, (tyE b).1] = true then 1 else 2, 0, 0) := by
  rw [tyE_eq]
  unfold tyG eBin
  rw [if_neg (by simp)]
  by_cases h : (tyE a).2.2 = 0
  · by_cases g : (tyE b).2.2 = 0
    · rw [if_neg (by simp [h]), if_neg (by simp [g])]
      simp only [List.map_cons, List.map_nil, badT, h, g, if_true, fitT, misP]
      cases t1 : takesB 5 (tyE a).1 with
      | false => simp
      | true =>
        cases t2 : takesB 5 (tyE b).1 with
        | false => simp
        | true =>
          simp only [if_true, joinsB, isT]
          cases hc : cmpB nm <;> cases ha : allT 1 [(tyE a).1, (tyE b).1] <;> simp
    · simp [badT, h, g]
  · simp [badT, h]
theorem alk_call (p : Int) (nm : Str) (e : Ex) : alk (eCall p nm e) (ownE (eCall p nm e)) = true := by
  unfold alk ownE eCall
  simp [nEq, msEq]
theorem alk_agg (p : Int) (nm : Str) (e : Ex) : alk (eAgg p nm false false [] e) (ownE (eAgg p nm false false [] e)) = true := by
  unfold alk ownE eAgg
  simp [nEq, msEq]
theorem alk_bin (p : Int) (nm : Str) (a b : Ex) : alk (eBin p nm false false [] a b) (ownE (eBin p nm false false [] a b)) = true := by
  unfold alk ownE eBin
  simp [nEq, msEq]
theorem snd_call (p : Int) (nm : Str) (e : Ex) (hf : fFun nm = true) (h : sndE e = true) : sndE (eCall p nm e) = true := by
  rw [sndE_eq, alk_call]
  simp [kindE, fK, eCall, hf, h]
theorem snd_agg (p : Int) (nm : Str) (e : Ex) (hf : isAggB nm = true) (h : sndE e = true) : sndE (eAgg p nm false false [] e) = true := by
  rw [sndE_eq, alk_agg]
  simp [kindE, fK, eAgg, hf, h, fGrp]
theorem snd_bin (p : Int) (nm : Str) (a b : Ex) (hf : (lv nm != 0) = true) (h : sndE a = true) (g : sndE b = true) : sndE (eBin p nm false false [] a b) = true := by
  rw [sndE_eq, alk_bin]
  simp only [bne_iff_ne] at hf
  simp [kindE, fK, eBin, hf, h, g, fGrp]
theorem sz_call (p : Int) (nm : Str) (e : Ex) : sz (eCall p nm e) = 1 + sz e := by rw [eCall, sz_mk]; rfl
theorem sz_agg (p : Int) (nm : Str) (e : Ex) : sz (eAgg p nm false false [] e) = 1 + sz e := by rw [eAgg, sz_mk]; rfl
theorem sz_bin (p : Int) (nm : Str) (a b : Ex) : sz (eBin p nm false false [] a b) = 1 + (sz a + sz b) := by rw [eBin, sz_mk]; rfl
theorem Sm_one {k p : Int} {s : Str} {b1 b2 b3 b4 : Bool} {e : Ex} (hs : Big s) (h : Sm e) : Sm ⟨k, p, false, 0, s, [], 0, b1, b2, b3, b4, [], [e]⟩ := by
  refine (Sm_eq _).2 ⟨hs, (fun x hx => by cases hx), (fun x hx => by cases hx), by simp, by simp, by simp, fun x hx => ?_⟩
  rw [List.mem_singleton.1 hx]
  exact h
theorem Sm_two {k p : Int} {s : Str} {b1 b2 b3 b4 : Bool} {a b : Ex} (hs : Big s) (h : Sm a) (g : Sm b) : Sm ⟨k, p, false, 0, s, [], 0, b1, b2, b3, b4, [], [a, b]⟩ := by
  refine (Sm_eq _).2 ⟨hs, (fun x hx => by cases hx), (fun x hx => by cases hx), by simp, by simp, by simp, fun x hx => ?_⟩
  rcases List.mem_cons.1 hx with rfl | hx
  · exact h
  · rw [List.mem_singleton.1 hx]
    exact g
end Go.Proofs.YteankdaegdhfiaaGreatDoor
/- The reference counts. -/
namespace Go.Proofs.YteankdaegdhfiaaGreatDoor
open Go.RowKit

def RCountOK (P : Nat → Prop) (e : Ex) : Prop := Sm e → ∀ (w : World) (cs : Array Value) (most : Int), TrP P w e cs → 0 ≤ most → most ≤ 1000000 → Calls Tryz.prog 29 #[.agg cs, .int .i64 most] w fun x w' => ∃ r, x = .returned (.int .i64 r) ∧ Cnt e most r ∧ Below w.heap.size w w'
set_option maxHeartbeats 4000000 in
theorem rcount_ok {P : Nat → Prop} (e : Ex) : RCountOK P e := by
  refine Ex.ind (RCountOK P) ?_ e
  intro e ih hs w cs most h hm0 hm1
  obtain ⟨_, _, _, _, _, hn6, hks⟩ := (Sm_eq e).1 hs
  have HM : Hid (∀ x, x ∈ e.ks → Sm x) := hks
  clear hs hks
  obtain ⟨vm, vn, ao, cap, rfl, sm, sn, hcap, hkid⟩ := h.parts
  obtain ⟨am, cm, rfl, _⟩ := sm
  obtain ⟨an, cn, rfl, _⟩ := sn
  have HK : Hid _ := hkid
  have HI : Hid _ := ih
  have HS : Hid (sz e = 1 + szL e.ks) := sz_eq e
  have HL : Hid (∀ k, szL (e.ks.take k) ≤ szL e.ks) := szL_take _
  have HT : Hid (szL (e.ks.take e.ks.length) = szL e.ks) := by show _ = _; rw [List.take_length]
  clear hkid ih h
  generalize hn : e.ks.length = n at *
  have HN : Hid (e.ks.length = n) := hn
  clear hn
  have q0 := heap_new w (.cells (exA e.k e.p e.o e.v e.s (.slice am e.m.length cm) e.r e.b1 e.b2 e.b3 e.b4 (.slice an e.ns.length cn) (.slice ao n cap)) 29)
  have B0 := bal (Below.refl w.heap.size w) (.cells (exA e.k e.p e.o e.v e.s (.slice am e.m.length cm) e.r e.b1 e.b2 e.b3 e.b4 (.slice an e.ns.length cn) (.slice ao n cap)) 29)
  have z0 := size_le w (.cells (exA e.k e.p e.o e.v e.s (.slice am e.m.length cm) e.r e.b1 e.b2 e.b3 e.b4 (.slice an e.ns.length cn) (.slice ao n cap)) 29)
  go_enter Tryz.func29, Tryz.ntmps29
  go_upto_region 3 with fail
  generalize w.alloc (.cells (exA e.k e.p e.o e.v e.s (.slice am e.m.length cm) e.r e.b1 e.b2 e.b3 e.b4 (.slice an e.ns.length cn) (.slice ao n cap)) 29) = w1 at *
  go_loopw [5, 6] (fun a i wr => ∃ (k : Nat) (r : Int), k ≤ n ∧ a = .int .i64 r ∧ i = .int .i64 k ∧ Below w1.heap.size w1 wr ∧ 1 ≤ r ∧ (r ≤ 1 ∨ r ≤ most + 1) ∧ (r ≤ most → Hid (r = 1 + szL (e.ks.take k))) ∧ (most < r → Hid (most < 1 + szL (e.ks.take k)))) (fun _ i _ => n - (intOf i).toNat)
  case atStart => exact ⟨0, 1, by omega, rfl, rfl, Below.refl _ _, by omega, Or.inl (by omega), fun _ => by show (1 : Int) = _; simp [szL], fun hq => by show most < _; simp [szL]; omega⟩
  case round =>
    obtain ⟨k, r, hk, rfl, rfl, B, r1, r2, HA, HB⟩ := hrel
    have q1 := below_heap B q0
    have c0 := (cell_at q1 12).trans rfl
    by_cases hlt : k < n
    · have hlt' : (k : Int) < n := by omega
      by_cases hrm : r ≤ most
      · obtain ⟨x, hx⟩ : ∃ x, e.ks[k]? = some x := ⟨_, List.getElem?_eq_getElem (by have := HN.out; omega)⟩
        obtain ⟨b, off, ci, ea, kd⟩ := HK.out k x hx
        have kd1 := kd.later (B0.trans (B.mono B0.size))
        subst ea
        have row := kd1.t.row
        have hc := HI.out x (List.mem_of_getElem? hx) (HM.out x (List.mem_of_getElem? hx)) wr ci (most - r) kd1.t (by omega) (by omega)
        have HX : Hid (szL (e.ks.take (k + 1)) = szL (e.ks.take k) + sz x) := szL_step _ _ _ hx
        have HR : Hid (r = 1 + szL (e.ks.take k)) := HA hrm
        clear HA HB hx kd HK HI
        go_wp2_with (refine wp_getm rfl _ rfl b (off + k * 13) ci rfl kd1.r row.1 ?_)
        refine hc.mono ?_
        rintro x' w2 ⟨r', rfl, C, b2⟩
        obtain ⟨d1, d2, d3, d4⟩ := C
        have B2 := B.trans (b2.mono B.size)
        go_wp2_with fail
        go_roundw
        case rel =>
          refine ⟨k + 1, r + r', by omega, by go_num, by go_num, B2, by omega, by omega, fun hq => ?_, fun hq => ?_⟩
          · have e1 := d3 (by omega)
            have e2 := HX.out
            have e3 := HR.out
            show _ = _
            omega
          · have e1 := d4 (by omega)
            have e2 := HX.out
            have e3 := HR.out
            show _ < _
            omega
        case measure => simp [intOf]; omega
      · have HV : Hid (Cnt e most r) := ⟨r1, r2, fun hq => absurd hq hrm, fun _ => by have e1 := (HB (by omega)).out; have e2 := HL.out k; have e3 := HS.out; omega⟩
        clear HA HB HK HI
        go_wp2_with fail
        go_ret
        exact ⟨_, rfl, HV.out, B0.trans (B.mono B0.size)⟩
    · have hlt' : ¬ (k : Int) < n := by omega
      have ek : k = n := by omega
      have HV : Hid (Cnt e most r) := by
        have e2 := HT.out
        have e3 := HS.out
        subst ek
        exact ⟨r1, r2, fun hq => by have := (HA hq).out; omega, fun hq => by have := (HB hq).out; omega⟩
      clear HA HB HK HI
      go_wp2_with fail
      go_ret
      exact ⟨_, rfl, HV.out, B0.trans (B.mono B0.size)⟩
end Go.Proofs.YteankdaegdhfiaaGreatDoor
/- What calls and aggregations take: the law TypesWraps. -/
namespace Go.Proofs.YteankdaegdhfiaaGreatDoor
open Go.RowKit

theorem isE_call (p : Int) (nm : Str) (e : Ex) (hf : fFun nm = true) (h : sndE e = true) (hz : sz e ≤ 200) : isE (eCall p nm e) = true := isE_of (sz_call p nm e) (by omega) (snd_call p nm e hf h)
theorem isE_agg (p : Int) (nm : Str) (e : Ex) (hf : isAggB nm = true) (h : sndE e = true) (hz : sz e ≤ 200) : isE (eAgg p nm false false [] e) = true := isE_of (sz_agg p nm e) (by omega) (snd_agg p nm e hf h)
theorem big_of {s : Str} (h : s.length ≤ 30) : Big s := by show s.length ≤ _; omega
theorem step_mk1 {ops : Array Oper} {o : Oper} {a : Act} {W : World} {K : Act → World → Prop} {Q : Exit → Act → World → Prop} {E : Prop} (x : Operand) (d : Option Tmp) (ho : o.op = .buildSlice 27 1 #[(0, x)]) (hd : o.dst = d) (hw : Region.wanted o (yielded ops a.tmps) = true) (cs : Array Value) (hx : a.eval x = .agg cs) (hn : cs.size = 13)
    (h : ∀ W', W'.heap[W.heap.size]? = some (.cells cs 29) → Below W.heap.size W W' → W.heap.size + 1 ≤ W'.heap.size → K (a.put d (.slice (some ⟨W.heap.size, 0, none⟩) 1 1)) W') : if Region.wanted o (yielded ops a.tmps) = true then Oper.wp Tryz.prog o a W K Q else E := by
  subst hd
  rw [if_pos hw]
  have k := h _ (heap_new W _) (bal (Below.refl _ _) _) (size_le _ _)
  have e : (Array.map (fun y : Nat × Operand => (y.1, a.eval y.2)) #[(0, x)]) = #[(0, .agg cs)] := by simp [hx]
  unfold Oper.wp execOp
  simp only [ho, e, Sem.run_bind, Result.andThen_ok, run_mk1 W cs hn]
  exact k
/-- A node of one kid, where it lies. -/
theorem node1 {W : World} {gk : Nat} {k p : Int} {s : Str} {e : Ex} {cs : Array Value} (h1 : TrP (fun _ => True) W e cs) (hk : W.heap[gk]? = some (.cells cs 29)) : TrP (fun _ => True) W ⟨k, p, false, 0, s, [], 0, false, false, false, false, [], [e]⟩ (exA k p false 0 s nl 0 false false false false nl (.slice (some ⟨gk, 0, none⟩) 1 1)) :=
  Tr.kid1 (Sl.nil _ _ _) (Sl.nil _ _ _) hk trivial h1
/-- What comes of it all. -/
def wrO (e : Ex) (o c a : Ty) : Prop := (o.2.2 ≠ 0 ∧ c = (0, o.2) ∧ a = (0, o.2)) ∨ (o = (1, 0, 0) ∧ c = (0, e.p, 90) ∧ a = (0, e.p, 90)) ∨ (o = (2, 0, 0) ∧ c = (0, e.p, 90) ∧ a = (2, 0, 0)) ∨ (o = (3, 0, 0) ∧ c = (2, 0, 0) ∧ a = (0, e.p, 90))
theorem wrO_of (e : Ex) (cn an : Str) (p q : Int) (hk : knw cn = true) : wrO e (tyE e) (tyE (eCall p cn e)) (tyE (eAgg q an false false [] e)) := by
  rw [ty_call p cn e hk, ty_agg]
  rcases tyE_in e with ⟨h1, h2, h3⟩ | ⟨_, h3⟩
  · have he : tyE e = ((tyE e).1, 0, 0) := Prod.ext rfl (Prod.ext h2 h3)
    have hn : ¬ (tyE e).2.2 ≠ 0 := fun h => h h3
    rw [if_neg hn, if_neg hn]
    rcases h1 with h1 | h1 | h1
    · rw [h1] at he; exact Or.inr (Or.inl ⟨he, by simp [h1], by simp [h1]⟩)
    · rw [h1] at he; exact Or.inr (Or.inr (Or.inl ⟨he, by simp [h1], by simp [h1]⟩))
    · rw [h1] at he; exact Or.inr (Or.inr (Or.inr ⟨he, by simp [h1], by simp [h1]⟩))
  · exact Or.inl ⟨h3, by rw [if_pos h3], by rw [if_pos h3]⟩
theorem ixc0 (W : World) : (Instr.index 61 (.agg #[tx [114, 97, 116, 101], tx [115, 117, 109, 95, 111, 118, 101, 114, 95, 116, 105, 109, 101], tx [108, 97, 115, 116, 95, 111, 118, 101, 114, 95, 116, 105, 109, 101]]) (.int .u8 0)).run Tryz.prog W = .ok (tx [114, 97, 116, 101]) W := by kernel_rfl
theorem ixa0 (W : World) : (Instr.index 61 (.agg #[tx [115, 117, 109], tx [109, 105, 110], tx [99, 111, 117, 110, 116]]) (.int .u8 0)).run Tryz.prog W = .ok (tx [115, 117, 109]) W := by kernel_rfl
theorem ixc1 (W : World) : (Instr.index 61 (.agg #[tx [114, 97, 116, 101], tx [115, 117, 109, 95, 111, 118, 101, 114, 95, 116, 105, 109, 101], tx [108, 97, 115, 116, 95, 111, 118, 101, 114, 95, 116, 105, 109, 101]]) (.int .u8 1)).run Tryz.prog W = .ok (tx [115, 117, 109, 95, 111, 118, 101, 114, 95, 116, 105, 109, 101]) W := by kernel_rfl
theorem ixa1 (W : World) : (Instr.index 61 (.agg #[tx [115, 117, 109], tx [109, 105, 110], tx [99, 111, 117, 110, 116]]) (.int .u8 1)).run Tryz.prog W = .ok (tx [109, 105, 110]) W := by kernel_rfl
theorem ixc2 (W : World) : (Instr.index 61 (.agg #[tx [114, 97, 116, 101], tx [115, 117, 109, 95, 111, 118, 101, 114, 95, 116, 105, 109, 101], tx [108, 97, 115, 116, 95, 111, 118, 101, 114, 95, 116, 105, 109, 101]]) (.int .u8 2)).run Tryz.prog W = .ok (tx [108, 97, 115, 116, 95, 111, 118, 101, 114, 95, 116, 105, 109, 101]) W := by kernel_rfl
theorem ixa2 (W : World) : (Instr.index 61 (.agg #[tx [115, 117, 109], tx [109, 105, 110], tx [99, 111, 117, 110, 116]]) (.int .u8 2)).run Tryz.prog W = .ok (tx [99, 111, 117, 110, 116]) W := by kernel_rfl
end Go.Proofs.YteankdaegdhfiaaGreatDoor
/- What is made of two: the law TypesKids: what it leans on. -/
namespace Go.Proofs.YteankdaegdhfiaaGreatDoor
open Go.RowKit

theorem isE_bin (p : Int) (nm : Str) (a b : Ex) (hf : (lv nm != 0) = true) (h : sndE a = true) (g : sndE b = true) (hz : sz a ≤ 150) (hz2 : sz b ≤ 150) : isE (eBin p nm false false [] a b) = true := isE_of (sz_bin p nm a b) (by omega) (snd_bin p nm a b hf h g)
theorem step_mk2 {ops : Array Oper} {o : Oper} {a : Act} {W : World} {K : Act → World → Prop} {Q : Exit → Act → World → Prop} {E : Prop} (x y : Operand) (d : Option Tmp) (ho : o.op = .buildSlice 27 2 #[(0, x), (1, y)]) (hd : o.dst = d) (hw : Region.wanted o (yielded ops a.tmps) = true) (cs ds : Array Value) (hx : a.eval x = .agg cs) (hy : a.eval y = .agg ds) (hn : cs.size = 13) (hm : ds.size = 13)
    (h : ∀ W', W'.heap[W.heap.size]? = some (.cells (cs ++ ds) 29) → Below W.heap.size W W' → W.heap.size + 1 ≤ W'.heap.size → K (a.put d (.slice (some ⟨W.heap.size, 0, none⟩) 2 2)) W') : if Region.wanted o (yielded ops a.tmps) = true then Oper.wp Tryz.prog o a W K Q else E := by
  subst hd
  rw [if_pos hw]
  have k := h _ (heap_new W _) (bal (Below.refl _ _) _) (size_le _ _)
  have e : (Array.map (fun z : Nat × Operand => (z.1, a.eval z.2)) #[(0, x), (1, y)]) = #[(0, .agg cs), (1, .agg ds)] := by simp [hx, hy]
  unfold Oper.wp execOp
  simp only [ho, e, Sem.run_bind, Result.andThen_ok, run_mk2 W cs ds hn hm]
  exact k
/-- A node of two kids, where it lies. -/
theorem node2 {W : World} {gk : Nat} {k p : Int} {s : Str} {a b : Ex} {cs ds : Array Value} (h1 : TrP (fun _ => True) W a cs) (h2 : TrP (fun _ => True) W b ds) (hk : W.heap[gk]? = some (.cells (cs ++ ds) 29)) : TrP (fun _ => True) W ⟨k, p, false, 0, s, [], 0, false, false, false, false, [], [a, b]⟩ (exA k p false 0 s nl 0 false false false false nl (.slice (some ⟨gk, 0, none⟩) 2 2)) :=
  Tr.kid2 (Sl.nil _ _ _) (Sl.nil _ _ _) hk trivial h1 h2
/-- What comes of it all: the first one's error, the second one's; a range; two scalars; else. -/
def kdO (a b : Ex) (c : Bool) (x y z : Ty) : Prop :=
  (x.2.2 ≠ 0 ∧ z = (0, x.2)) ∨ (x.2.2 = 0 ∧ y.2.2 ≠ 0 ∧ z = (0, y.2)) ∨ (x.2.2 = 0 ∧ y.2.2 = 0 ∧ ((x.1 = 3 ∧ z = (0, a.p, 90)) ∨ ((x.1 = 1 ∨ x.1 = 2) ∧ y.1 = 3 ∧ z = (0, b.p, 90)) ∨ (x.1 = 1 ∧ y.1 = 1 ∧ z = if c = true then (0, 7, 90) else (1, 0, 0)) ∨ (x.1 = 1 ∧ y.1 = 2 ∧ z = (2, 0, 0)) ∨ (x.1 = 2 ∧ (y.1 = 1 ∨ y.1 = 2) ∧ z = (2, 0, 0))))
theorem kdO_of (a b : Ex) (nm : Str) : kdO a b (cmpB nm) (tyE a) (tyE b) (tyE (eBin 7 nm false false [] a b)) := by
  rw [ty_bin]
  rcases tyE_in a with ⟨h1, _, h3⟩ | ⟨_, h3⟩
  · rcases tyE_in b with ⟨g1, _, g3⟩ | ⟨_, g3⟩
    · refine Or.inr (Or.inr ⟨h3, g3, ?_⟩)
      have hn : ¬ (tyE a).2.2 ≠ 0 := fun h => h h3
      have gn : ¬ (tyE b).2.2 ≠ 0 := fun h => h g3
      rw [if_neg hn, if_neg gn]
      rcases h1 with h1 | h1 | h1
      · rcases g1 with g1 | g1 | g1
        · refine Or.inr (Or.inr (Or.inl ⟨h1, g1, ?_⟩))
          rw [h1, g1]
          cases cmpB nm <;> rfl
        · refine Or.inr (Or.inr (Or.inr (Or.inl ⟨h1, g1, ?_⟩)))
          rw [h1, g1]
          cases cmpB nm <;> rfl
        · refine Or.inr (Or.inl ⟨Or.inl h1, g1, ?_⟩)
          rw [h1, g1]
          rfl
      · rcases g1 with g1 | g1 | g1
        · refine Or.inr (Or.inr (Or.inr (Or.inr ⟨h1, Or.inl g1, ?_⟩)))
          rw [h1, g1]
          cases cmpB nm <;> rfl
        · refine Or.inr (Or.inr (Or.inr (Or.inr ⟨h1, Or.inr g1, ?_⟩)))
          rw [h1, g1]
          cases cmpB nm <;> rfl
        · refine Or.inr (Or.inl ⟨Or.inr h1, g1, ?_⟩)
          rw [h1, g1]
          rfl
      · refine Or.inl ⟨h1, ?_⟩
        rw [h1]
        rfl
    · refine Or.inr (Or.inl ⟨h3, g3, ?_⟩)
      rw [if_neg (fun h => h h3), if_pos g3]
  · refine Or.inl ⟨h3, ?_⟩
    rw [if_pos h3]
theorem ixk0 (W : World) : (Instr.index 59 (.agg #[tx [43], tx [45], tx [42], tx [47], tx [62], tx [33, 61]]) (.int .u8 0)).run Tryz.prog W = .ok (tx [43]) W := by kernel_rfl
theorem ixk1 (W : World) : (Instr.index 59 (.agg #[tx [43], tx [45], tx [42], tx [47], tx [62], tx [33, 61]]) (.int .u8 1)).run Tryz.prog W = .ok (tx [45]) W := by kernel_rfl
theorem ixk2 (W : World) : (Instr.index 59 (.agg #[tx [43], tx [45], tx [42], tx [47], tx [62], tx [33, 61]]) (.int .u8 2)).run Tryz.prog W = .ok (tx [42]) W := by kernel_rfl
theorem ixk3 (W : World) : (Instr.index 59 (.agg #[tx [43], tx [45], tx [42], tx [47], tx [62], tx [33, 61]]) (.int .u8 3)).run Tryz.prog W = .ok (tx [47]) W := by kernel_rfl
theorem ixk4 (W : World) : (Instr.index 59 (.agg #[tx [43], tx [45], tx [42], tx [47], tx [62], tx [33, 61]]) (.int .u8 4)).run Tryz.prog W = .ok (tx [62]) W := by kernel_rfl
theorem ixk5 (W : World) : (Instr.index 59 (.agg #[tx [43], tx [45], tx [42], tx [47], tx [62], tx [33, 61]]) (.int .u8 5)).run Tryz.prog W = .ok (tx [33, 61]) W := by kernel_rfl
end Go.Proofs.YteankdaegdhfiaaGreatDoor
/- The law TypesKids, a sixth of it. -/
namespace Go.Proofs.YteankdaegdhfiaaGreatDoor
open Go.RowKit

set_option maxHeartbeats 8000000 in
set_option maxRecDepth 20000 in
theorem kids0 (n : Int) (hh : n.tmod 6 = (0 : Int)) (a b : Ex) (cs ds : Array Value) (w : World) (hTa : TrP (fun _ : Nat => True) w a cs) (hTb : TrP (fun _ : Nat => True) w b ds) (hSa : Sm a) (hSb : Sm b) (he : Ev w) (het : Et w) : Calls Tryz.prog 8 #[.agg cs, .agg ds, .int .u8 n] w fun x w' => x = .returned (.bool true) ∧ Below w.heap.size w w' := by
  have HA : Hid _ := hTa
  have HB : Hid _ := hTb
  have rowa := hTa.row
  have rowb := hTb.row
  obtain ⟨vm0, vn0, ao0, cap0, eca, sm0, sn0, _, _⟩ := hTa.parts
  obtain ⟨am0, cm0, rfl, _⟩ := sm0
  obtain ⟨an0, cn0, rfl, _⟩ := sn0
  obtain ⟨vm1, vn1, ao1, cap1, ecb, sm1, sn1, _, _⟩ := hTb.parts
  obtain ⟨am1, cm1, rfl, _⟩ := sm1
  obtain ⟨an1, cn1, rfl, _⟩ := sn1
  have EA : Hid (cs = exA a.k a.p a.o a.v a.s (.slice am0 a.m.length cm0) a.r a.b1 a.b2 a.b3 a.b4 (.slice an0 a.ns.length cn0) (.slice ao0 a.ks.length cap0)) := eca
  have EB : Hid (ds = exA b.k b.p b.o b.v b.s (.slice am1 b.m.length cm1) b.r b.b1 b.b2 b.b3 b.b4 (.slice an1 b.ns.length cn1) (.slice ao1 b.ks.length cap1)) := ecb
  clear eca ecb
  have B1 := bal (bal (Below.refl w.heap.size w) (.cells cs 29)) (.cells ds 29)
  have qa := new_heap (heap_new w (.cells cs 29)) (.cells ds 29)
  have qb : ((w.alloc (.cells cs 29)).alloc (.cells ds 29)).heap[w.heap.size + 1]? = some (.cells ds 29) := by
    have h := heap_new (w.alloc (.cells cs 29)) (.cells ds 29)
    rw [size_new] at h
    exact h
  have HE : Hid (Ev w) := he
  have HT : Hid (Et w) := het
  have hkn := fun W (hW : Below w.heap.size w W) => tknown_any W (HE.out.later hW) (HT.out.later hW)
  have hca := fun W (hW : Below w.heap.size w W) => rcount_ok a hSa W cs 150 (HA.out.later hW) (by omega) (by omega)
  have hcb : ∀ W, Below w.heap.size w W → Calls Tryz.prog 29 #[.agg (exA b.k b.p b.o b.v b.s (.slice am1 b.m.length cm1) b.r b.b1 b.b2 b.b3 b.b4 (.slice an1 b.ns.length cn1) (.slice ao1 b.ks.length cap1)), .int .i64 150] W fun x w' => ∃ r, x = .returned (.int .i64 r) ∧ Cnt b 150 r ∧ Below W.heap.size W w' := fun W hW => by rw [← EB.out]; exact rcount_ok b hSb W ds 150 (HB.out.later hW) (by omega) (by omega)
  have hIa : ∀ W, Below w.heap.size w W → Calls Tryz.prog 19 #[.agg (exA a.k a.p a.o a.v a.s (.slice am0 a.m.length cm0) a.r a.b1 a.b2 a.b3 a.b4 (.slice an0 a.ns.length cn0) (.slice ao0 a.ks.length cap0))] W fun x w' => x = .returned (.bool (isE a)) ∧ Below W.heap.size W w' := fun W hW => by rw [← EA.out]; exact isE_any (HA.out.later hW) hSa
  have hIb : ∀ W, Below w.heap.size w W → Calls Tryz.prog 19 #[.agg (exA b.k b.p b.o b.v b.s (.slice am1 b.m.length cm1) b.r b.b1 b.b2 b.b3 b.b4 (.slice an1 b.ns.length cn1) (.slice ao1 b.ks.length cap1))] W fun x w' => x = .returned (.bool (isE b)) ∧ Below W.heap.size W w' := fun W hW => by rw [← EB.out]; exact isE_any (HB.out.later hW) hSb
  have hix := ixk0
  have HOa : Hid (∀ W, Below w.heap.size w W → Calls Tryz.prog 30 #[.agg cs] W fun x w' => x = .returned (tyV (ofE a)) ∧ Below W.heap.size W w') := fun W hW => of_any (HA.out.later hW) hSa (HT.out.later hW)
  have HOb : Hid (∀ W, Below w.heap.size w W → Calls Tryz.prog 30 #[.agg ds] W fun x w' => x = .returned (tyV (ofE b)) ∧ Below W.heap.size W w') := fun W hW => of_any (HB.out.later hW) hSb (HT.out.later hW)
  clear hTa hTb he het
  go_enter Tryz.func8, Tryz.ntmps8
  go_upto_region 1 with fail
  generalize (w.alloc (.cells cs 29)).alloc (.cells ds 29) = w1 at *
  go_wp2_with fail
  refine (hkn _ B1).mono ?_
  rintro x w2 ⟨rfl, b2⟩
  have B2 := B1.trans (b2.mono B1.size)
  have qa2 := below_heap b2 qa
  have qb2 := below_heap b2 qb
  clear hkn b2 qa qb
  go_upto_region 3 with fail
  go_wp2_with (refine wp_get rfl 29 _ rfl w.heap.size cs 29 rfl qa2 _ Tryz.underlying29 rfl 13 inf29 rowa.1 ?_)
  refine (hca _ B2).mono ?_
  rintro x w3 ⟨r, rfl, HC, b3⟩
  have B3 := B2.trans (b3.mono B2.size)
  have qa3 := below_heap b3 qa2
  have qb3 := below_heap b3 qb2
  clear hca b3 qa2 qb2
  by_cases hr : r ≤ 150
  · have hr' : ¬ (150 : Int) < r := by omega
    have HZa : Hid (sz a ≤ 150) := by have := HC.2.2.1 hr; show _ ≤ _; omega
    clear HC
    have x0 : w3.cell? ⟨w.heap.size + 1, 0, none⟩ = some (.int .i64 b.k) := (cell_at qb3 0).trans (by rw [EB.out]; rfl)
    have x1 : w3.cell? ⟨w.heap.size + 1, 1, none⟩ = some (.int .i64 b.p) := (cell_at qb3 1).trans (by rw [EB.out]; rfl)
    have x2 : w3.cell? ⟨w.heap.size + 1, 2, none⟩ = some (.bool b.o) := (cell_at qb3 2).trans (by rw [EB.out]; rfl)
    have x3 : w3.cell? ⟨w.heap.size + 1, 3, none⟩ = some (.int .i64 b.v) := (cell_at qb3 3).trans (by rw [EB.out]; rfl)
    have x4 : w3.cell? ⟨w.heap.size + 1, 4, none⟩ = some (tx b.s) := (cell_at qb3 4).trans (by rw [EB.out]; rfl)
    have x5 : w3.cell? ⟨w.heap.size + 1, 5, none⟩ = some (.slice am1 b.m.length cm1) := (cell_at qb3 5).trans (by rw [EB.out]; rfl)
    have x6 : w3.cell? ⟨w.heap.size + 1, 6, none⟩ = some (.int .i64 b.r) := (cell_at qb3 6).trans (by rw [EB.out]; rfl)
    have x7 : w3.cell? ⟨w.heap.size + 1, 7, none⟩ = some (.bool b.b1) := (cell_at qb3 7).trans (by rw [EB.out]; rfl)
    have x8 : w3.cell? ⟨w.heap.size + 1, 8, none⟩ = some (.bool b.b2) := (cell_at qb3 8).trans (by rw [EB.out]; rfl)
    have x9 : w3.cell? ⟨w.heap.size + 1, 9, none⟩ = some (.bool b.b3) := (cell_at qb3 9).trans (by rw [EB.out]; rfl)
    have x10 : w3.cell? ⟨w.heap.size + 1, 10, none⟩ = some (.bool b.b4) := (cell_at qb3 10).trans (by rw [EB.out]; rfl)
    have x11 : w3.cell? ⟨w.heap.size + 1, 11, none⟩ = some (.slice an1 b.ns.length cn1) := (cell_at qb3 11).trans (by rw [EB.out]; rfl)
    have x12 : w3.cell? ⟨w.heap.size + 1, 12, none⟩ = some (.slice ao1 b.ks.length cap1) := (cell_at qb3 12).trans (by rw [EB.out]; rfl)
    go_wp2_with fail
    refine (hcb _ B3).mono ?_
    rintro x w4 ⟨s, rfl, HC, b4⟩
    clear x0 x1 x2 x3 x4 x5 x6 x7 x8 x9 x10 x11 x12
    have B4 := B3.trans (b4.mono B3.size)
    have qa4 := below_heap b4 qa3
    have qb4 := below_heap b4 qb3
    clear hcb b4 qa3 qb3
    by_cases hs : s ≤ 150
    · have hs' : ¬ (150 : Int) < s := by omega
      have HZb : Hid (sz b ≤ 150) := by have := HC.2.2.1 hs; show _ ≤ _; omega
      clear HC
      have x0 : w4.cell? ⟨w.heap.size, 0, none⟩ = some (.int .i64 a.k) := (cell_at qa4 0).trans (by rw [EA.out]; rfl)
      have x1 : w4.cell? ⟨w.heap.size, 1, none⟩ = some (.int .i64 a.p) := (cell_at qa4 1).trans (by rw [EA.out]; rfl)
      have x2 : w4.cell? ⟨w.heap.size, 2, none⟩ = some (.bool a.o) := (cell_at qa4 2).trans (by rw [EA.out]; rfl)
      have x3 : w4.cell? ⟨w.heap.size, 3, none⟩ = some (.int .i64 a.v) := (cell_at qa4 3).trans (by rw [EA.out]; rfl)
      have x4 : w4.cell? ⟨w.heap.size, 4, none⟩ = some (tx a.s) := (cell_at qa4 4).trans (by rw [EA.out]; rfl)
      have x5 : w4.cell? ⟨w.heap.size, 5, none⟩ = some (.slice am0 a.m.length cm0) := (cell_at qa4 5).trans (by rw [EA.out]; rfl)
      have x6 : w4.cell? ⟨w.heap.size, 6, none⟩ = some (.int .i64 a.r) := (cell_at qa4 6).trans (by rw [EA.out]; rfl)
      have x7 : w4.cell? ⟨w.heap.size, 7, none⟩ = some (.bool a.b1) := (cell_at qa4 7).trans (by rw [EA.out]; rfl)
      have x8 : w4.cell? ⟨w.heap.size, 8, none⟩ = some (.bool a.b2) := (cell_at qa4 8).trans (by rw [EA.out]; rfl)
      have x9 : w4.cell? ⟨w.heap.size, 9, none⟩ = some (.bool a.b3) := (cell_at qa4 9).trans (by rw [EA.out]; rfl)
      have x10 : w4.cell? ⟨w.heap.size, 10, none⟩ = some (.bool a.b4) := (cell_at qa4 10).trans (by rw [EA.out]; rfl)
      have x11 : w4.cell? ⟨w.heap.size, 11, none⟩ = some (.slice an0 a.ns.length cn0) := (cell_at qa4 11).trans (by rw [EA.out]; rfl)
      have x12 : w4.cell? ⟨w.heap.size, 12, none⟩ = some (.slice ao0 a.ks.length cap0) := (cell_at qa4 12).trans (by rw [EA.out]; rfl)
      cases hqa : isE a with
      | false =>
        simp only [hqa] at hIa
        clear hqa HOa HOb HZa HZb
        go_wp2_with fail
        refine (hIa _ B4).mono ?_
        rintro x w5 ⟨rfl, b5⟩
        go_wp2_with fail
        go_ret
        exact ⟨rfl, B4.trans (b5.mono B4.size)⟩
      | true =>
        simp only [hqa] at hIa
        go_wp2_with fail
        refine (hIa _ B4).mono ?_
        rintro x w5 ⟨rfl, b5⟩
        clear x0 x1 x2 x3 x4 x5 x6 x7 x8 x9 x10 x11 x12
        have B5 := B4.trans (b5.mono B4.size)
        have qa5 := below_heap b5 qa4
        have qb5 := below_heap b5 qb4
        clear hIa b5 qa4 qb4
        have x0 : w5.cell? ⟨w.heap.size + 1, 0, none⟩ = some (.int .i64 b.k) := (cell_at qb5 0).trans (by rw [EB.out]; rfl)
        have x1 : w5.cell? ⟨w.heap.size + 1, 1, none⟩ = some (.int .i64 b.p) := (cell_at qb5 1).trans (by rw [EB.out]; rfl)
        have x2 : w5.cell? ⟨w.heap.size + 1, 2, none⟩ = some (.bool b.o) := (cell_at qb5 2).trans (by rw [EB.out]; rfl)
        have x3 : w5.cell? ⟨w.heap.size + 1, 3, none⟩ = some (.int .i64 b.v) := (cell_at qb5 3).trans (by rw [EB.out]; rfl)
        have x4 : w5.cell? ⟨w.heap.size + 1, 4, none⟩ = some (tx b.s) := (cell_at qb5 4).trans (by rw [EB.out]; rfl)
        have x5 : w5.cell? ⟨w.heap.size + 1, 5, none⟩ = some (.slice am1 b.m.length cm1) := (cell_at qb5 5).trans (by rw [EB.out]; rfl)
        have x6 : w5.cell? ⟨w.heap.size + 1, 6, none⟩ = some (.int .i64 b.r) := (cell_at qb5 6).trans (by rw [EB.out]; rfl)
        have x7 : w5.cell? ⟨w.heap.size + 1, 7, none⟩ = some (.bool b.b1) := (cell_at qb5 7).trans (by rw [EB.out]; rfl)
        have x8 : w5.cell? ⟨w.heap.size + 1, 8, none⟩ = some (.bool b.b2) := (cell_at qb5 8).trans (by rw [EB.out]; rfl)
        have x9 : w5.cell? ⟨w.heap.size + 1, 9, none⟩ = some (.bool b.b3) := (cell_at qb5 9).trans (by rw [EB.out]; rfl)
        have x10 : w5.cell? ⟨w.heap.size + 1, 10, none⟩ = some (.bool b.b4) := (cell_at qb5 10).trans (by rw [EB.out]; rfl)
        have x11 : w5.cell? ⟨w.heap.size + 1, 11, none⟩ = some (.slice an1 b.ns.length cn1) := (cell_at qb5 11).trans (by rw [EB.out]; rfl)
        have x12 : w5.cell? ⟨w.heap.size + 1, 12, none⟩ = some (.slice ao1 b.ks.length cap1) := (cell_at qb5 12).trans (by rw [EB.out]; rfl)
        cases hqb : isE b with
        | false =>
          simp only [hqb] at hIb
          clear hqb HOa HOb HZa HZb
          go_wp2_with fail
          refine (hIb _ B5).mono ?_
          rintro x w6 ⟨rfl, b6⟩
          go_wp2_with fail
          go_ret
          exact ⟨rfl, B5.trans (b6.mono B5.size)⟩
        | true =>
          simp only [hqb] at hIb
          have hoa := HOa.out
          have hob := HOb.out
          rw [show ofE a = tyE a by unfold ofE; rw [if_pos hqa]] at hoa
          rw [show ofE b = tyE b by unfold ofE; rw [if_pos hqb]] at hob
          have hcE : ofE (eBin 7 [43] false false [] a b) = tyE (eBin 7 [43] false false [] a b) := ofE_of (isE_bin 7 [43] a b (by kernel_rfl) (isE_snd hqa) (isE_snd hqb) HZa.out HZb.out) rfl
          have hwr := kdO_of a b [43]
          rw [show cmpB [43] = false by kernel_rfl] at hwr
          have hc := fun W cs' (h : TrP (fun _ : Nat => True) W (eBin 7 [43] false false [] a b) cs') hE => of_any h (Sm_two (big_of (by decide)) hSa hSb) hE
          simp only [hcE] at hc
          have HW : Hid _ := hwr
          clear hcE hwr HZa HZb HOa HOb hqa hqb
          generalize tyE a = O at *
          generalize tyE b = U at *
          generalize tyE (eBin 7 [43] false false [] a b) = C at *
          obtain ⟨o1, o2, o3⟩ := O
          obtain ⟨u1, u2, u3⟩ := U
          obtain ⟨c1, c2, c3⟩ := C
          go_wp2_with fail
          refine (hIb _ B5).mono ?_
          rintro x w6 ⟨rfl, b6⟩
          clear x0 x1 x2 x3 x4 x5 x6 x7 x8 x9 x10 x11 x12
          have B6 := B5.trans (b6.mono B5.size)
          have qa6 := below_heap b6 qa5
          have qb6 := below_heap b6 qb5
          clear hIb b6 qa5 qb5
          go_upto_region 5 with fail
          go_wp2_with (refine wp_get rfl 29 _ rfl w.heap.size cs 29 rfl qa6 _ Tryz.underlying29 rfl 13 inf29 rowa.1 ?_)
          refine (hoa _ B6).mono ?_
          rintro x w7 ⟨rfl, b7⟩
          have B7 := B6.trans (b7.mono B6.size)
          have qa7 := below_heap b7 qa6
          have qb7 := below_heap b7 qb6
          clear b7 qa6 qb6 hoa
          go_upto_region 6 with fail
          go_wp2_with (refine wp_get rfl 29 _ rfl (w.heap.size + 1) ds 29 rfl qb7 _ Tryz.underlying29 rfl 13 inf29 rowb.1 ?_)
          refine (hob _ B7).mono ?_
          rintro x w8 ⟨rfl, b8⟩
          have B8 := B7.trans (b8.mono B7.size)
          have qa8 := below_heap b8 qa7
          have qb8 := below_heap b8 qb7
          clear b8 qa7 qb7 hob
          go_upto_region 7 with fail
          obtain ⟨R, hR⟩ : ∃ R : Act → World → Prop, Hid (R = fun a' w' => ∃ g gk : Nat, ∃ v17 v18 v19 v20 v21 v22 v23 v24 v25 v26 v27 v28 v29 v30 v31 v32 v33 v34 v35 v36 v37 v38 v39 v40 v41 v42 v43 v44 v45 v46 v47 v48 v49 v50 v51 v52 v53 v54 v55 v56 : Value, a' = { tmps := #[.agg cs, .agg ds, .int .u8 n, .pointer (some ⟨w.heap.size, 0, none⟩), .pointer (some ⟨w.heap.size + 1, 0, none⟩), undef, .bool false, iv o1, iv o2, iv o3, iv u1, iv u2, iv u3, .pointer (some ⟨g, 0, none⟩), undef, undef, undef, v17, v18, v19, v20, v21, v22, v23, v24, v25, v26, v27, v28, v29, v30, v31, v32, v33, v34, v35, v36, v37, v38, v39, v40, v41, v42, v43, v44, v45, v46, v47, v48, v49, v50, v51, v52, v53, v54, v55, v56, undef, undef, undef, undef, undef, undef, undef, undef, undef, undef, undef, undef, undef, undef, undef, undef, undef, undef, undef, undef, undef, undef, undef, undef, undef, undef, undef, undef, undef, undef, undef, undef, undef, undef, undef, undef, undef, undef, undef, undef, undef, undef, undef, undef, undef, undef, undef, undef, undef, undef, undef, undef, undef, undef, undef, undef, undef, undef, undef, undef, undef, undef, undef, undef, undef, undef, undef, undef, undef, undef, undef, undef, undef, undef, undef, undef, undef, undef, undef, undef, undef, undef, undef, undef, undef, undef, undef], defers := [] } ∧ w'.heap[g]? = some (.cells (exA 5 7 false 0 [43] nl 0 false false false false nl (.slice (some ⟨gk, 0, none⟩) 2 2)) 29) ∧ w'.heap[gk]? = some (.cells (cs ++ ds) 29) ∧ w8.heap.size ≤ g ∧ w8.heap.size ≤ gk ∧ Below w8.heap.size w8 w') := ⟨_, rfl⟩
          refine region_mid R ?_ ?_
          · have C0 : Below w8.heap.size w8 w8.drew := (Below.refl _ _).drew
            refine wp_region_noPanic ?_
            refine wp_region_held_drew (S := fun W => Below w8.heap.size w8 W) (by kernel_rfl) ?_ (fun _ => ?_)
            · exact C0
            generalize w8.drew = wd at *
            have zC := C0.size
            refine take_at 0 (some 49) (.agg #[tx [43], tx [45], tx [42], tx [47], tx [62], tx [33, 61]]) rfl rfl (by kernel_rfl) (by kernel_rfl) (by kernel_rfl) (fun _ _ _ h => h) (by rfl) (fun W hSw => by go_simp) C0 ?_
            simp only [Act.put, List.setIfInBounds_toArray, List.set_cons_zero, List.set_cons_succ]
            refine take_at 1 (some 50) (.int .u8 n) rfl rfl (by kernel_rfl) (by kernel_rfl) (by kernel_rfl) (fun _ _ _ h => h) (by rfl) (fun W hSw => by go_simp) C0 ?_
            simp only [Act.put, List.setIfInBounds_toArray, List.set_cons_zero, List.set_cons_succ]
            refine take_at 2 (some 51) (.int .u8 0) rfl rfl (by kernel_rfl) (by kernel_rfl) (by kernel_rfl) (fun _ _ _ h => h) (by rfl) (fun W hSw => by go_simp) C0 ?_
            simp only [Act.put, List.setIfInBounds_toArray, List.set_cons_zero, List.set_cons_succ]
            refine take_at 3 (some 52) (tx [43]) rfl rfl (by kernel_rfl) (by kernel_rfl) (by kernel_rfl) (fun _ _ _ h => h) (by rfl) (fun W hSw => by go_simp) C0 ?_
            simp only [Act.put, List.setIfInBounds_toArray, List.set_cons_zero, List.set_cons_succ]
            refine take_at 4 (some 53) (.agg cs) rfl rfl (by kernel_rfl) (by kernel_rfl) (by kernel_rfl) (fun _ _ _ h => h) (by rfl) (fun W hSw => by exact exec_get 29 _ rfl w.heap.size cs 29 rfl W (below_heap hSw qa8) _ Tryz.underlying29 rfl 13 inf29 rowa.1) C0 ?_
            simp only [Act.put, List.setIfInBounds_toArray, List.set_cons_zero, List.set_cons_succ]
            refine take_at 5 (some 54) (.agg ds) rfl rfl (by kernel_rfl) (by kernel_rfl) (by kernel_rfl) (fun _ _ _ h => h) (by rfl) (fun W hSw => by exact exec_get 29 _ rfl (w.heap.size + 1) ds 29 rfl W (below_heap hSw qb8) _ Tryz.underlying29 rfl 13 inf29 rowb.1) C0 ?_
            simp only [Act.put, List.setIfInBounds_toArray, List.set_cons_zero, List.set_cons_succ]
            refine wpAnyH_ready (rs := [6, 8]) (by kernel_rfl) (by simp) ?_
            refine AllReadyH.cons rfl (fun K hK => ?_) (AllReadyH.cons rfl (fun K hK => ?_) AllReadyH.nil)
            · refine step_mk2 _ _ (some 55) rfl rfl (by rfl) cs ds rfl rfl rowa.1 rowb.1 ?_
              intro y1 k1 d1 s1
              have D1 := C0.trans (d1.mono zC)
              clear d1
              refine hK.out _ _ ?_ (fun _ => ?_)
              · exact D1
              clear hK K
              refine take_at 7 (some 56) (.agg (exA 5 7 false 0 [43] nl 0 false false false false nl (.slice (some ⟨wd.heap.size, 0, none⟩) 2 2))) rfl rfl (by kernel_rfl) (by kernel_rfl) (by kernel_rfl) (fun _ _ _ h => h) (by rfl) (fun W hSw => by go_simp) D1 ?_
              simp only [Act.put, List.setIfInBounds_toArray, List.set_cons_zero, List.set_cons_succ]
              refine wpAnyH_ready (rs := [8]) (by kernel_rfl) (by simp) ?_
              refine AllReadyH.cons rfl (fun K hK => ?_) AllReadyH.nil
              go_simp
              have D2 := bal D1 (.cells zE 29)
              have k2 := heap_new y1 (.cells zE 29)
              have k1' := new_heap k1 (.cells zE 29)
              generalize y1.alloc (.cells zE 29) = y2 at *
              refine hK.out _ _ ?_ (fun _ => ?_)
              · exact D2
              clear hK K
              refine wpAnyH_ready (rs := [9]) (by kernel_rfl) (by simp) ?_
              refine AllReadyH.cons rfl (fun K hK => ?_) AllReadyH.nil
              refine step_put 29 _ _ none rfl rfl (by rfl) y1.heap.size (exA 5 7 false 0 [43] nl 0 false false false false nl (.slice (some ⟨wd.heap.size, 0, none⟩) 2 2)) rfl rfl _ 29 k2 13 inf29 rfl ⟨rfl, rfl⟩ ?_
              intro y3 k3 o3' z3
              have k4 := o3'.heap k1' (by simp <;> omega)
              have D3 := ((Off.of D2 []).trans o3' (by simp <;> omega)).below (by simp)
              refine hK.out _ _ ?_ (fun _ => ?_)
              · exact D3
              clear hK K
              refine wpAnyH_done (by kernel_rfl) ?_ _
              refine NoPanic.normal ?_
              show R _ _
              rw [hR.out]
              exact ⟨y1.heap.size, wd.heap.size, _, _, _, _, _, _, _, _, _, _, _, _, _, _, _, _, _, _, _, _, _, _, _, _, _, _, _, _, _, _, _, _, _, _, _, _, _, _, _, _, rfl, k3, k4, by omega, by omega, D3⟩
            · go_simp
              have D1 := bal C0 (.cells zE 29)
              have k1 := heap_new wd (.cells zE 29)
              have s1 := size_le wd (.cells zE 29)
              generalize wd.alloc (.cells zE 29) = y1 at *
              refine hK.out _ _ ?_ (fun _ => ?_)
              · exact D1
              clear hK K
              refine wpAnyH_ready (rs := [6]) (by kernel_rfl) (by simp) ?_
              refine AllReadyH.cons rfl (fun K hK => ?_) AllReadyH.nil
              refine step_mk2 _ _ (some 55) rfl rfl (by rfl) cs ds rfl rfl rowa.1 rowb.1 ?_
              intro y2 k2 d2 s2
              have D2 := D1.trans (d2.mono D1.size)
              have k1' := below_heap d2 k1
              clear d2
              refine hK.out _ _ ?_ (fun _ => ?_)
              · exact D2
              clear hK K
              refine take_at 7 (some 56) (.agg (exA 5 7 false 0 [43] nl 0 false false false false nl (.slice (some ⟨y1.heap.size, 0, none⟩) 2 2))) rfl rfl (by kernel_rfl) (by kernel_rfl) (by kernel_rfl) (fun _ _ _ h => h) (by rfl) (fun W hSw => by go_simp) D2 ?_
              simp only [Act.put, List.setIfInBounds_toArray, List.set_cons_zero, List.set_cons_succ]
              refine wpAnyH_ready (rs := [9]) (by kernel_rfl) (by simp) ?_
              refine AllReadyH.cons rfl (fun K hK => ?_) AllReadyH.nil
              refine step_put 29 _ _ none rfl rfl (by rfl) wd.heap.size (exA 5 7 false 0 [43] nl 0 false false false false nl (.slice (some ⟨y1.heap.size, 0, none⟩) 2 2)) rfl rfl _ 29 k1' 13 inf29 rfl ⟨rfl, rfl⟩ ?_
              intro y3 k3 o3' z3
              have k4 := o3'.heap k2 (by simp <;> omega)
              have D3 := ((Off.of D2 []).trans o3' (by simp <;> omega)).below (by simp)
              refine hK.out _ _ ?_ (fun _ => ?_)
              · exact D3
              clear hK K
              refine wpAnyH_done (by kernel_rfl) ?_ _
              refine NoPanic.normal ?_
              show R _ _
              rw [hR.out]
              exact ⟨wd.heap.size, y1.heap.size, _, _, _, _, _, _, _, _, _, _, _, _, _, _, _, _, _, _, _, _, _, _, _, _, _, _, _, _, _, _, _, _, _, _, _, _, _, _, _, _, rfl, k3, k4, by omega, by omega, D3⟩
          intro a' w9 h
          rw [hR.out] at h
          obtain ⟨g, gk, v17, v18, v19, v20, v21, v22, v23, v24, v25, v26, v27, v28, v29, v30, v31, v32, v33, v34, v35, v36, v37, v38, v39, v40, v41, v42, v43, v44, v45, v46, v47, v48, v49, v50, v51, v52, v53, v54, v55, v56, rfl, Ng, Kg, Lg, Mg, b9⟩ := h
          clear hR R
          have B9 := B8.trans (b9.mono B8.size)
          have qa9 := below_heap b9 qa8
          have qb9 := below_heap b9 qb8
          clear b9 qa8 qb8
          go_upto_region 8 with fail
          go_wp2_with (refine wp_get rfl 29 _ rfl g _ 29 rfl Ng _ Tryz.underlying29 rfl 13 inf29 rfl ?_)
          refine (hc _ _ (node2 (HA.out.later B9) (HB.out.later B9) Kg) (HT.out.later B9)).mono ?_
          rintro x w10 ⟨rfl, b10⟩
          have B10 := B9.trans (b10.mono B9.size)
          have y1 : w10.cell? ⟨w.heap.size, 1, none⟩ = some (.int .i64 a.p) := (cell_at (below_heap b10 qa9) 1).trans (by rw [EA.out]; rfl)
          have z1 : w10.cell? ⟨w.heap.size + 1, 1, none⟩ = some (.int .i64 b.p) := (cell_at (below_heap b10 qb9) 1).trans (by rw [EB.out]; rfl)
          clear hc qa9 qb9 Ng Kg b10
          go_upto_region 9 with fail
          have hw := HW.out
          clear HW
          unfold kdO at hw
          rcases hw with ⟨h3, hz⟩ | ⟨h3, h4, hz⟩ | ⟨h3, h4, hw⟩
          · have t1 : (o3 != 0) = true := by rw [bne_iff_ne]; exact h3
            have t2 : (o3 == 0) = false := beq_eq_false_iff_ne.2 h3
            clear h3
            injection hz with c1' c2'
            injection c2' with c2' c3'
            subst c1' c2' c3'
            go_wp2_with fail
            go_ret
            exact ⟨by simp, B10⟩
          · subst h3
            have t1 : (u3 != 0) = true := by rw [bne_iff_ne]; exact h4
            have t2 : (u3 == 0) = false := beq_eq_false_iff_ne.2 h4
            clear h4
            injection hz with c1' c2'
            injection c2' with c2' c3'
            subst c1' c2' c3'
            go_wp2_with fail
            go_ret
            exact ⟨by simp, B10⟩
          · subst h3 h4
            rcases hw with ⟨e1, hz⟩ | ⟨e1, e2, hz⟩ | ⟨e1, e2, hz⟩ | ⟨e1, e2, hz⟩ | ⟨e1, e2, hz⟩
            · subst e1
              injection hz with c1' c2'
              injection c2' with c2' c3'
              subst c1' c2' c3'
              go_wp2_with fail
              go_ret
              exact ⟨by simp, B10⟩
            · subst e2
              rcases e1 with rfl | rfl
              · injection hz with c1' c2'
                injection c2' with c2' c3'
                subst c1' c2' c3'
                go_wp2_with fail
                go_ret
                exact ⟨by simp, B10⟩
              · injection hz with c1' c2'
                injection c2' with c2' c3'
                subst c1' c2' c3'
                go_wp2_with fail
                go_ret
                exact ⟨by simp, B10⟩
            · subst e1 e2
              have hz : (c1, c2, c3) = ((1, 0, 0) : Ty) := hz
              injection hz with c1' c2'
              injection c2' with c2' c3'
              subst c1' c2' c3'
              go_wp2_with fail
              go_ret
              exact ⟨by simp, B10⟩
            · subst e1 e2
              injection hz with c1' c2'
              injection c2' with c2' c3'
              subst c1' c2' c3'
              go_wp2_with fail
              go_ret
              exact ⟨by simp, B10⟩
            · subst e1
              rcases e2 with rfl | rfl
              · injection hz with c1' c2'
                injection c2' with c2' c3'
                subst c1' c2' c3'
                go_wp2_with fail
                go_ret
                exact ⟨by simp, B10⟩
              · injection hz with c1' c2'
                injection c2' with c2' c3'
                subst c1' c2' c3'
                go_wp2_with fail
                go_ret
                exact ⟨by simp, B10⟩
    · have hs' : (150 : Int) < s := by omega
      go_wp2_with fail
      go_ret
      exact ⟨rfl, B4⟩
  · have hr' : (150 : Int) < r := by omega
    go_wp2_with fail
    go_ret
    exact ⟨rfl, B3⟩
end Go.Proofs.YteankdaegdhfiaaGreatDoor
/- The law TypesKids, a sixth of it. -/
namespace Go.Proofs.YteankdaegdhfiaaGreatDoor
open Go.RowKit

set_option maxHeartbeats 8000000 in
set_option maxRecDepth 20000 in
theorem kids1 (n : Int) (hh : n.tmod 6 = (1 : Int)) (a b : Ex) (cs ds : Array Value) (w : World) (hTa : TrP (fun _ : Nat => True) w a cs) (hTb : TrP (fun _ : Nat => True) w b ds) (hSa : Sm a) (hSb : Sm b) (he : Ev w) (het : Et w) : Calls Tryz.prog 8 #[.agg cs, .agg ds, .int .u8 n] w fun x w' => x = .returned (.bool true) ∧ Below w.heap.size w w' := by
  have HA : Hid _ := hTa
  have HB : Hid _ := hTb
  have rowa := hTa.row
  have rowb := hTb.row
  obtain ⟨vm0, vn0, ao0, cap0, eca, sm0, sn0, _, _⟩ := hTa.parts
  obtain ⟨am0, cm0, rfl, _⟩ := sm0
  obtain ⟨an0, cn0, rfl, _⟩ := sn0
  obtain ⟨vm1, vn1, ao1, cap1, ecb, sm1, sn1, _, _⟩ := hTb.parts
  obtain ⟨am1, cm1, rfl, _⟩ := sm1
  obtain ⟨an1, cn1, rfl, _⟩ := sn1
  have EA : Hid (cs = exA a.k a.p a.o a.v a.s (.slice am0 a.m.length cm0) a.r a.b1 a.b2 a.b3 a.b4 (.slice an0 a.ns.length cn0) (.slice ao0 a.ks.length cap0)) := eca
  have EB : Hid (ds = exA b.k b.p b.o b.v b.s (.slice am1 b.m.length cm1) b.r b.b1 b.b2 b.b3 b.b4 (.slice an1 b.ns.length cn1) (.slice ao1 b.ks.length cap1)) := ecb
  clear eca ecb
  have B1 := bal (bal (Below.refl w.heap.size w) (.cells cs 29)) (.cells ds 29)
  have qa := new_heap (heap_new w (.cells cs 29)) (.cells ds 29)
  have qb : ((w.alloc (.cells cs 29)).alloc (.cells ds 29)).heap[w.heap.size + 1]? = some (.cells ds 29) := by
    have h := heap_new (w.alloc (.cells cs 29)) (.cells ds 29)
    rw [size_new] at h
    exact h
  have HE : Hid (Ev w) := he
  have HT : Hid (Et w) := het
  have hkn := fun W (hW : Below w.heap.size w W) => tknown_any W (HE.out.later hW) (HT.out.later hW)
  have hca := fun W (hW : Below w.heap.size w W) => rcount_ok a hSa W cs 150 (HA.out.later hW) (by omega) (by omega)
  have hcb : ∀ W, Below w.heap.size w W → Calls Tryz.prog 29 #[.agg (exA b.k b.p b.o b.v b.s (.slice am1 b.m.length cm1) b.r b.b1 b.b2 b.b3 b.b4 (.slice an1 b.ns.length cn1) (.slice ao1 b.ks.length cap1)), .int .i64 150] W fun x w' => ∃ r, x = .returned (.int .i64 r) ∧ Cnt b 150 r ∧ Below W.heap.size W w' := fun W hW => by rw [← EB.out]; exact rcount_ok b hSb W ds 150 (HB.out.later hW) (by omega) (by omega)
  have hIa : ∀ W, Below w.heap.size w W → Calls Tryz.prog 19 #[.agg (exA a.k a.p a.o a.v a.s (.slice am0 a.m.length cm0) a.r a.b1 a.b2 a.b3 a.b4 (.slice an0 a.ns.length cn0) (.slice ao0 a.ks.length cap0))] W fun x w' => x = .returned (.bool (isE a)) ∧ Below W.heap.size W w' := fun W hW => by rw [← EA.out]; exact isE_any (HA.out.later hW) hSa
  have hIb : ∀ W, Below w.heap.size w W → Calls Tryz.prog 19 #[.agg (exA b.k b.p b.o b.v b.s (.slice am1 b.m.length cm1) b.r b.b1 b.b2 b.b3 b.b4 (.slice an1 b.ns.length cn1) (.slice ao1 b.ks.length cap1))] W fun x w' => x = .returned (.bool (isE b)) ∧ Below W.heap.size W w' := fun W hW => by rw [← EB.out]; exact isE_any (HB.out.later hW) hSb
  have hix := ixk1
  have HOa : Hid (∀ W, Below w.heap.size w W → Calls Tryz.prog 30 #[.agg cs] W fun x w' => x = .returned (tyV (ofE a)) ∧ Below W.heap.size W w') := fun W hW => of_any (HA.out.later hW) hSa (HT.out.later hW)
  have HOb : Hid (∀ W, Below w.heap.size w W → Calls Tryz.prog 30 #[.agg ds] W fun x w' => x = .returned (tyV (ofE b)) ∧ Below W.heap.size W w') := fun W hW => of_any (HB.out.later hW) hSb (HT.out.later hW)
  clear hTa hTb he het
  go_enter Tryz.func8, Tryz.ntmps8
  go_upto_region 1 with fail
  generalize (w.alloc (.cells cs 29)).alloc (.cells ds 29) = w1 at *
  go_wp2_with fail
  refine (hkn _ B1).mono ?_
  rintro x w2 ⟨rfl, b2⟩
  have B2 := B1.trans (b2.mono B1.size)
  have qa2 := below_heap b2 qa
  have qb2 := below_heap b2 qb
  clear hkn b2 qa qb
  go_upto_region 3 with fail
  go_wp2_with (refine wp_get rfl 29 _ rfl w.heap.size cs 29 rfl qa2 _ Tryz.underlying29 rfl 13 inf29 rowa.1 ?_)
  refine (hca _ B2).mono ?_
  rintro x w3 ⟨r, rfl, HC, b3⟩
  have B3 := B2.trans (b3.mono B2.size)
  have qa3 := below_heap b3 qa2
  have qb3 := below_heap b3 qb2
  clear hca b3 qa2 qb2
  by_cases hr : r ≤ 150
  · have hr' : ¬ (150 : Int) < r := by omega
    have HZa : Hid (sz a ≤ 150) := by have := HC.2.2.1 hr; show _ ≤ _; omega
    clear HC
    have x0 : w3.cell? ⟨w.heap.size + 1, 0, none⟩ = some (.int .i64 b.k) := (cell_at qb3 0).trans (by rw [EB.out]; rfl)
    have x1 : w3.cell? ⟨w.heap.size + 1, 1, none⟩ = some (.int .i64 b.p) := (cell_at qb3 1).trans (by rw [EB.out]; rfl)
    have x2 : w3.cell? ⟨w.heap.size + 1, 2, none⟩ = some (.bool b.o) := (cell_at qb3 2).trans (by rw [EB.out]; rfl)
    have x3 : w3.cell? ⟨w.heap.size + 1, 3, none⟩ = some (.int .i64 b.v) := (cell_at qb3 3).trans (by rw [EB.out]; rfl)
    have x4 : w3.cell? ⟨w.heap.size + 1, 4, none⟩ = some (tx b.s) := (cell_at qb3 4).trans (by rw [EB.out]; rfl)
    have x5 : w3.cell? ⟨w.heap.size + 1, 5, none⟩ = some (.slice am1 b.m.length cm1) := (cell_at qb3 5).trans (by rw [EB.out]; rfl)
    have x6 : w3.cell? ⟨w.heap.size + 1, 6, none⟩ = some (.int .i64 b.r) := (cell_at qb3 6).trans (by rw [EB.out]; rfl)
    have x7 : w3.cell? ⟨w.heap.size + 1, 7, none⟩ = some (.bool b.b1) := (cell_at qb3 7).trans (by rw [EB.out]; rfl)
    have x8 : w3.cell? ⟨w.heap.size + 1, 8, none⟩ = some (.bool b.b2) := (cell_at qb3 8).trans (by rw [EB.out]; rfl)
    have x9 : w3.cell? ⟨w.heap.size + 1, 9, none⟩ = some (.bool b.b3) := (cell_at qb3 9).trans (by rw [EB.out]; rfl)
    have x10 : w3.cell? ⟨w.heap.size + 1, 10, none⟩ = some (.bool b.b4) := (cell_at qb3 10).trans (by rw [EB.out]; rfl)
    have x11 : w3.cell? ⟨w.heap.size + 1, 11, none⟩ = some (.slice an1 b.ns.length cn1) := (cell_at qb3 11).trans (by rw [EB.out]; rfl)
    have x12 : w3.cell? ⟨w.heap.size + 1, 12, none⟩ = some (.slice ao1 b.ks.length cap1) := (cell_at qb3 12).trans (by rw [EB.out]; rfl)
    go_wp2_with fail
    refine (hcb _ B3).mono ?_
    rintro x w4 ⟨s, rfl, HC, b4⟩
    clear x0 x1 x2 x3 x4 x5 x6 x7 x8 x9 x10 x11 x12
    have B4 := B3.trans (b4.mono B3.size)
    have qa4 := below_heap b4 qa3
    have qb4 := below_heap b4 qb3
    clear hcb b4 qa3 qb3
    by_cases hs : s ≤ 150
    · have hs' : ¬ (150 : Int) < s := by omega
      have HZb : Hid (sz b ≤ 150) := by have := HC.2.2.1 hs; show _ ≤ _; omega
      clear HC
      have x0 : w4.cell? ⟨w.heap.size, 0, none⟩ = some (.int .i64 a.k) := (cell_at qa4 0).trans (by rw [EA.out]; rfl)
      have x1 : w4.cell? ⟨w.heap.size, 1, none⟩ = some (.int .i64 a.p) := (cell_at qa4 1).trans (by rw [EA.out]; rfl)
      have x2 : w4.cell? ⟨w.heap.size, 2, none⟩ = some (.bool a.o) := (cell_at qa4 2).trans (by rw [EA.out]; rfl)
      have x3 : w4.cell? ⟨w.heap.size, 3, none⟩ = some (.int .i64 a.v) := (cell_at qa4 3).trans (by rw [EA.out]; rfl)
      have x4 : w4.cell? ⟨w.heap.size, 4, none⟩ = some (tx a.s) := (cell_at qa4 4).trans (by rw [EA.out]; rfl)
      have x5 : w4.cell? ⟨w.heap.size, 5, none⟩ = some (.slice am0 a.m.length cm0) := (cell_at qa4 5).trans (by rw [EA.out]; rfl)
      have x6 : w4.cell? ⟨w.heap.size, 6, none⟩ = some (.int .i64 a.r) := (cell_at qa4 6).trans (by rw [EA.out]; rfl)
      have x7 : w4.cell? ⟨w.heap.size, 7, none⟩ = some (.bool a.b1) := (cell_at qa4 7).trans (by rw [EA.out]; rfl)
      have x8 : w4.cell? ⟨w.heap.size, 8, none⟩ = some (.bool a.b2) := (cell_at qa4 8).trans (by rw [EA.out]; rfl)
      have x9 : w4.cell? ⟨w.heap.size, 9, none⟩ = some (.bool a.b3) := (cell_at qa4 9).trans (by rw [EA.out]; rfl)
      have x10 : w4.cell? ⟨w.heap.size, 10, none⟩ = some (.bool a.b4) := (cell_at qa4 10).trans (by rw [EA.out]; rfl)
      have x11 : w4.cell? ⟨w.heap.size, 11, none⟩ = some (.slice an0 a.ns.length cn0) := (cell_at qa4 11).trans (by rw [EA.out]; rfl)
      have x12 : w4.cell? ⟨w.heap.size, 12, none⟩ = some (.slice ao0 a.ks.length cap0) := (cell_at qa4 12).trans (by rw [EA.out]; rfl)
      cases hqa : isE a with
      | false =>
        simp only [hqa] at hIa
        clear hqa HOa HOb HZa HZb
        go_wp2_with fail
        refine (hIa _ B4).mono ?_
        rintro x w5 ⟨rfl, b5⟩
        go_wp2_with fail
        go_ret
        exact ⟨rfl, B4.trans (b5.mono B4.size)⟩
      | true =>
        simp only [hqa] at hIa
        go_wp2_with fail
        refine (hIa _ B4).mono ?_
        rintro x w5 ⟨rfl, b5⟩
        clear x0 x1 x2 x3 x4 x5 x6 x7 x8 x9 x10 x11 x12
        have B5 := B4.trans (b5.mono B4.size)
        have qa5 := below_heap b5 qa4
        have qb5 := below_heap b5 qb4
        clear hIa b5 qa4 qb4
        have x0 : w5.cell? ⟨w.heap.size + 1, 0, none⟩ = some (.int .i64 b.k) := (cell_at qb5 0).trans (by rw [EB.out]; rfl)
        have x1 : w5.cell? ⟨w.heap.size + 1, 1, none⟩ = some (.int .i64 b.p) := (cell_at qb5 1).trans (by rw [EB.out]; rfl)
        have x2 : w5.cell? ⟨w.heap.size + 1, 2, none⟩ = some (.bool b.o) := (cell_at qb5 2).trans (by rw [EB.out]; rfl)
        have x3 : w5.cell? ⟨w.heap.size + 1, 3, none⟩ = some (.int .i64 b.v) := (cell_at qb5 3).trans (by rw [EB.out]; rfl)
        have x4 : w5.cell? ⟨w.heap.size + 1, 4, none⟩ = some (tx b.s) := (cell_at qb5 4).trans (by rw [EB.out]; rfl)
        have x5 : w5.cell? ⟨w.heap.size + 1, 5, none⟩ = some (.slice am1 b.m.length cm1) := (cell_at qb5 5).trans (by rw [EB.out]; rfl)
        have x6 : w5.cell? ⟨w.heap.size + 1, 6, none⟩ = some (.int .i64 b.r) := (cell_at qb5 6).trans (by rw [EB.out]; rfl)
        have x7 : w5.cell? ⟨w.heap.size + 1, 7, none⟩ = some (.bool b.b1) := (cell_at qb5 7).trans (by rw [EB.out]; rfl)
        have x8 : w5.cell? ⟨w.heap.size + 1, 8, none⟩ = some (.bool b.b2) := (cell_at qb5 8).trans (by rw [EB.out]; rfl)
        have x9 : w5.cell? ⟨w.heap.size + 1, 9, none⟩ = some (.bool b.b3) := (cell_at qb5 9).trans (by rw [EB.out]; rfl)
        have x10 : w5.cell? ⟨w.heap.size + 1, 10, none⟩ = some (.bool b.b4) := (cell_at qb5 10).trans (by rw [EB.out]; rfl)
        have x11 : w5.cell? ⟨w.heap.size + 1, 11, none⟩ = some (.slice an1 b.ns.length cn1) := (cell_at qb5 11).trans (by rw [EB.out]; rfl)
        have x12 : w5.cell? ⟨w.heap.size + 1, 12, none⟩ = some (.slice ao1 b.ks.length cap1) := (cell_at qb5 12).trans (by rw [EB.out]; rfl)
        cases hqb : isE b with
        | false =>
          simp only [hqb] at hIb
          clear hqb HOa HOb HZa HZb
          go_wp2_with fail
          refine (hIb _ B5).mono ?_
          rintro x w6 ⟨rfl, b6⟩
          go_wp2_with fail
          go_ret
          exact ⟨rfl, B5.trans (b6.mono B5.size)⟩
        | true =>
          simp only [hqb] at hIb
          have hoa := HOa.out
          have hob := HOb.out
          rw [show ofE a = tyE a by unfold ofE; rw [if_pos hqa]] at hoa
          rw [show ofE b = tyE b by unfold ofE; rw [if_pos hqb]] at hob
          have hcE : ofE (eBin 7 [45] false false [] a b) = tyE (eBin 7 [45] false false [] a b) := ofE_of (isE_bin 7 [45] a b (by kernel_rfl) (isE_snd hqa) (isE_snd hqb) HZa.out HZb.out) rfl
          have hwr := kdO_of a b [45]
          rw [show cmpB [45] = false by kernel_rfl] at hwr
          have hc := fun W cs' (h : TrP (fun _ : Nat => True) W (eBin 7 [45] false false [] a b) cs') hE => of_any h (Sm_two (big_of (by decide)) hSa hSb) hE
          simp only [hcE] at hc
          have HW : Hid _ := hwr
          clear hcE hwr HZa HZb HOa HOb hqa hqb
          generalize tyE a = O at *
          generalize tyE b = U at *
          generalize tyE (eBin 7 [45] false false [] a b) = C at *
          obtain ⟨o1, o2, o3⟩ := O
          obtain ⟨u1, u2, u3⟩ := U
          obtain ⟨c1, c2, c3⟩ := C
          go_wp2_with fail
          refine (hIb _ B5).mono ?_
          rintro x w6 ⟨rfl, b6⟩
          clear x0 x1 x2 x3 x4 x5 x6 x7 x8 x9 x10 x11 x12
          have B6 := B5.trans (b6.mono B5.size)
          have qa6 := below_heap b6 qa5
          have qb6 := below_heap b6 qb5
          clear hIb b6 qa5 qb5
          go_upto_region 5 with fail
          go_wp2_with (refine wp_get rfl 29 _ rfl w.heap.size cs 29 rfl qa6 _ Tryz.underlying29 rfl 13 inf29 rowa.1 ?_)
          refine (hoa _ B6).mono ?_
          rintro x w7 ⟨rfl, b7⟩
          have B7 := B6.trans (b7.mono B6.size)
          have qa7 := below_heap b7 qa6
          have qb7 := below_heap b7 qb6
          clear b7 qa6 qb6 hoa
          go_upto_region 6 with fail
          go_wp2_with (refine wp_get rfl 29 _ rfl (w.heap.size + 1) ds 29 rfl qb7 _ Tryz.underlying29 rfl 13 inf29 rowb.1 ?_)
          refine (hob _ B7).mono ?_
          rintro x w8 ⟨rfl, b8⟩
          have B8 := B7.trans (b8.mono B7.size)
          have qa8 := below_heap b8 qa7
          have qb8 := below_heap b8 qb7
          clear b8 qa7 qb7 hob
          go_upto_region 7 with fail
          obtain ⟨R, hR⟩ : ∃ R : Act → World → Prop, Hid (R = fun a' w' => ∃ g gk : Nat, ∃ v17 v18 v19 v20 v21 v22 v23 v24 v25 v26 v27 v28 v29 v30 v31 v32 v33 v34 v35 v36 v37 v38 v39 v40 v41 v42 v43 v44 v45 v46 v47 v48 v49 v50 v51 v52 v53 v54 v55 v56 : Value, a' = { tmps := #[.agg cs, .agg ds, .int .u8 n, .pointer (some ⟨w.heap.size, 0, none⟩), .pointer (some ⟨w.heap.size + 1, 0, none⟩), undef, .bool false, iv o1, iv o2, iv o3, iv u1, iv u2, iv u3, .pointer (some ⟨g, 0, none⟩), undef, undef, undef, v17, v18, v19, v20, v21, v22, v23, v24, v25, v26, v27, v28, v29, v30, v31, v32, v33, v34, v35, v36, v37, v38, v39, v40, v41, v42, v43, v44, v45, v46, v47, v48, v49, v50, v51, v52, v53, v54, v55, v56, undef, undef, undef, undef, undef, undef, undef, undef, undef, undef, undef, undef, undef, undef, undef, undef, undef, undef, undef, undef, undef, undef, undef, undef, undef, undef, undef, undef, undef, undef, undef, undef, undef, undef, undef, undef, undef, undef, undef, undef, undef, undef, undef, undef, undef, undef, undef, undef, undef, undef, undef, undef, undef, undef, undef, undef, undef, undef, undef, undef, undef, undef, undef, undef, undef, undef, undef, undef, undef, undef, undef, undef, undef, undef, undef, undef, undef, undef, undef, undef, undef, undef, undef, undef, undef, undef, undef], defers := [] } ∧ w'.heap[g]? = some (.cells (exA 5 7 false 0 [45] nl 0 false false false false nl (.slice (some ⟨gk, 0, none⟩) 2 2)) 29) ∧ w'.heap[gk]? = some (.cells (cs ++ ds) 29) ∧ w8.heap.size ≤ g ∧ w8.heap.size ≤ gk ∧ Below w8.heap.size w8 w') := ⟨_, rfl⟩
          refine region_mid R ?_ ?_
          · have C0 : Below w8.heap.size w8 w8.drew := (Below.refl _ _).drew
            refine wp_region_noPanic ?_
            refine wp_region_held_drew (S := fun W => Below w8.heap.size w8 W) (by kernel_rfl) ?_ (fun _ => ?_)
            · exact C0
            generalize w8.drew = wd at *
            have zC := C0.size
            refine take_at 0 (some 49) (.agg #[tx [43], tx [45], tx [42], tx [47], tx [62], tx [33, 61]]) rfl rfl (by kernel_rfl) (by kernel_rfl) (by kernel_rfl) (fun _ _ _ h => h) (by rfl) (fun W hSw => by go_simp) C0 ?_
            simp only [Act.put, List.setIfInBounds_toArray, List.set_cons_zero, List.set_cons_succ]
            refine take_at 1 (some 50) (.int .u8 n) rfl rfl (by kernel_rfl) (by kernel_rfl) (by kernel_rfl) (fun _ _ _ h => h) (by rfl) (fun W hSw => by go_simp) C0 ?_
            simp only [Act.put, List.setIfInBounds_toArray, List.set_cons_zero, List.set_cons_succ]
            refine take_at 2 (some 51) (.int .u8 1) rfl rfl (by kernel_rfl) (by kernel_rfl) (by kernel_rfl) (fun _ _ _ h => h) (by rfl) (fun W hSw => by go_simp) C0 ?_
            simp only [Act.put, List.setIfInBounds_toArray, List.set_cons_zero, List.set_cons_succ]
            refine take_at 3 (some 52) (tx [45]) rfl rfl (by kernel_rfl) (by kernel_rfl) (by kernel_rfl) (fun _ _ _ h => h) (by rfl) (fun W hSw => by go_simp) C0 ?_
            simp only [Act.put, List.setIfInBounds_toArray, List.set_cons_zero, List.set_cons_succ]
            refine take_at 4 (some 53) (.agg cs) rfl rfl (by kernel_rfl) (by kernel_rfl) (by kernel_rfl) (fun _ _ _ h => h) (by rfl) (fun W hSw => by exact exec_get 29 _ rfl w.heap.size cs 29 rfl W (below_heap hSw qa8) _ Tryz.underlying29 rfl 13 inf29 rowa.1) C0 ?_
            simp only [Act.put, List.setIfInBounds_toArray, List.set_cons_zero, List.set_cons_succ]
            refine take_at 5 (some 54) (.agg ds) rfl rfl (by kernel_rfl) (by kernel_rfl) (by kernel_rfl) (fun _ _ _ h => h) (by rfl) (fun W hSw => by exact exec_get 29 _ rfl (w.heap.size + 1) ds 29 rfl W (below_heap hSw qb8) _ Tryz.underlying29 rfl 13 inf29 rowb.1) C0 ?_
            simp only [Act.put, List.setIfInBounds_toArray, List.set_cons_zero, List.set_cons_succ]
            refine wpAnyH_ready (rs := [6, 8]) (by kernel_rfl) (by simp) ?_
            refine AllReadyH.cons rfl (fun K hK => ?_) (AllReadyH.cons rfl (fun K hK => ?_) AllReadyH.nil)
            · refine step_mk2 _ _ (some 55) rfl rfl (by rfl) cs ds rfl rfl rowa.1 rowb.1 ?_
              intro y1 k1 d1 s1
              have D1 := C0.trans (d1.mono zC)
              clear d1
              refine hK.out _ _ ?_ (fun _ => ?_)
              · exact D1
              clear hK K
              refine take_at 7 (some 56) (.agg (exA 5 7 false 0 [45] nl 0 false false false false nl (.slice (some ⟨wd.heap.size, 0, none⟩) 2 2))) rfl rfl (by kernel_rfl) (by kernel_rfl) (by kernel_rfl) (fun _ _ _ h => h) (by rfl) (fun W hSw => by go_simp) D1 ?_
              simp only [Act.put, List.setIfInBounds_toArray, List.set_cons_zero, List.set_cons_succ]
              refine wpAnyH_ready (rs := [8]) (by kernel_rfl) (by simp) ?_
              refine AllReadyH.cons rfl (fun K hK => ?_) AllReadyH.nil
              go_simp
              have D2 := bal D1 (.cells zE 29)
              have k2 := heap_new y1 (.cells zE 29)
              have k1' := new_heap k1 (.cells zE 29)
              generalize y1.alloc (.cells zE 29) = y2 at *
              refine hK.out _ _ ?_ (fun _ => ?_)
              · exact D2
              clear hK K
              refine wpAnyH_ready (rs := [9]) (by kernel_rfl) (by simp) ?_
              refine AllReadyH.cons rfl (fun K hK => ?_) AllReadyH.nil
              refine step_put 29 _ _ none rfl rfl (by rfl) y1.heap.size (exA 5 7 false 0 [45] nl 0 false false false false nl (.slice (some ⟨wd.heap.size, 0, none⟩) 2 2)) rfl rfl _ 29 k2 13 inf29 rfl ⟨rfl, rfl⟩ ?_
              intro y3 k3 o3' z3
              have k4 := o3'.heap k1' (by simp <;> omega)
              have D3 := ((Off.of D2 []).trans o3' (by simp <;> omega)).below (by simp)
              refine hK.out _ _ ?_ (fun _ => ?_)
              · exact D3
              clear hK K
              refine wpAnyH_done (by kernel_rfl) ?_ _
              refine NoPanic.normal ?_
              show R _ _
              rw [hR.out]
              exact ⟨y1.heap.size, wd.heap.size, _, _, _, _, _, _, _, _, _, _, _, _, _, _, _, _, _, _, _, _, _, _, _, _, _, _, _, _, _, _, _, _, _, _, _, _, _, _, _, _, rfl, k3, k4, by omega, by omega, D3⟩
            · go_simp
              have D1 := bal C0 (.cells zE 29)
              have k1 := heap_new wd (.cells zE 29)
              have s1 := size_le wd (.cells zE 29)
              generalize wd.alloc (.cells zE 29) = y1 at *
              refine hK.out _ _ ?_ (fun _ => ?_)
              · exact D1
              clear hK K
              refine wpAnyH_ready (rs := [6]) (by kernel_rfl) (by simp) ?_
              refine AllReadyH.cons rfl (fun K hK => ?_) AllReadyH.nil
              refine step_mk2 _ _ (some 55) rfl rfl (by rfl) cs ds rfl rfl rowa.1 rowb.1 ?_
              intro y2 k2 d2 s2
              have D2 := D1.trans (d2.mono D1.size)
              have k1' := below_heap d2 k1
              clear d2
              refine hK.out _ _ ?_ (fun _ => ?_)
              · exact D2
              clear hK K
              refine take_at 7 (some 56) (.agg (exA 5 7 false 0 [45] nl 0 false false false false nl (.slice (some ⟨y1.heap.size, 0, none⟩) 2 2))) rfl rfl (by kernel_rfl) (by kernel_rfl) (by kernel_rfl) (fun _ _ _ h => h) (by rfl) (fun W hSw => by go_simp) D2 ?_
              simp only [Act.put, List.setIfInBounds_toArray, List.set_cons_zero, List.set_cons_succ]
              refine wpAnyH_ready (rs := [9]) (by kernel_rfl) (by simp) ?_
              refine AllReadyH.cons rfl (fun K hK => ?_) AllReadyH.nil
              refine step_put 29 _ _ none rfl rfl (by rfl) wd.heap.size (exA 5 7 false 0 [45] nl 0 false false false false nl (.slice (some ⟨y1.heap.size, 0, none⟩) 2 2)) rfl rfl _ 29 k1' 13 inf29 rfl ⟨rfl, rfl⟩ ?_
              intro y3 k3 o3' z3
              have k4 := o3'.heap k2 (by simp <;> omega)
              have D3 := ((Off.of D2 []).trans o3' (by simp <;> omega)).below (by simp)
              refine hK.out _ _ ?_ (fun _ => ?_)
              · exact D3
              clear hK K
              refine wpAnyH_done (by kernel_rfl) ?_ _
              refine NoPanic.normal ?_
              show R _ _
              rw [hR.out]
              exact ⟨wd.heap.size, y1.heap.size, _, _, _, _, _, _, _, _, _, _, _, _, _, _, _, _, _, _, _, _, _, _, _, _, _, _, _, _, _, _, _, _, _, _, _, _, _, _, _, _, rfl, k3, k4, by omega, by omega, D3⟩
          intro a' w9 h
          rw [hR.out] at h
          obtain ⟨g, gk, v17, v18, v19, v20, v21, v22, v23, v24, v25, v26, v27, v28, v29, v30, v31, v32, v33, v34, v35, v36, v37, v38, v39, v40, v41, v42, v43, v44, v45, v46, v47, v48, v49, v50, v51, v52, v53, v54, v55, v56, rfl, Ng, Kg, Lg, Mg, b9⟩ := h
          clear hR R
          have B9 := B8.trans (b9.mono B8.size)
          have qa9 := below_heap b9 qa8
          have qb9 := below_heap b9 qb8
          clear b9 qa8 qb8
          go_upto_region 8 with fail
          go_wp2_with (refine wp_get rfl 29 _ rfl g _ 29 rfl Ng _ Tryz.underlying29 rfl 13 inf29 rfl ?_)
          refine (hc _ _ (node2 (HA.out.later B9) (HB.out.later B9) Kg) (HT.out.later B9)).mono ?_
          rintro x w10 ⟨rfl, b10⟩
          have B10 := B9.trans (b10.mono B9.size)
          have y1 : w10.cell? ⟨w.heap.size, 1, none⟩ = some (.int .i64 a.p) := (cell_at (below_heap b10 qa9) 1).trans (by rw [EA.out]; rfl)
          have z1 : w10.cell? ⟨w.heap.size + 1, 1, none⟩ = some (.int .i64 b.p) := (cell_at (below_heap b10 qb9) 1).trans (by rw [EB.out]; rfl)
          clear hc qa9 qb9 Ng Kg b10
          go_upto_region 9 with fail
          have hw := HW.out
          clear HW
          unfold kdO at hw
          rcases hw with ⟨h3, hz⟩ | ⟨h3, h4, hz⟩ | ⟨h3, h4, hw⟩
          · have t1 : (o3 != 0) = true := by rw [bne_iff_ne]; exact h3
            have t2 : (o3 == 0) = false := beq_eq_false_iff_ne.2 h3
            clear h3
            injection hz with c1' c2'
            injection c2' with c2' c3'
            subst c1' c2' c3'
            go_wp2_with fail
            go_ret
            exact ⟨by simp, B10⟩
          · subst h3
            have t1 : (u3 != 0) = true := by rw [bne_iff_ne]; exact h4
            have t2 : (u3 == 0) = false := beq_eq_false_iff_ne.2 h4
            clear h4
            injection hz with c1' c2'
            injection c2' with c2' c3'
            subst c1' c2' c3'
            go_wp2_with fail
            go_ret
            exact ⟨by simp, B10⟩
          · subst h3 h4
            rcases hw with ⟨e1, hz⟩ | ⟨e1, e2, hz⟩ | ⟨e1, e2, hz⟩ | ⟨e1, e2, hz⟩ | ⟨e1, e2, hz⟩
            · subst e1
              injection hz with c1' c2'
              injection c2' with c2' c3'
              subst c1' c2' c3'
              go_wp2_with fail
              go_ret
              exact ⟨by simp, B10⟩
            · subst e2
              rcases e1 with rfl | rfl
              · injection hz with c1' c2'
                injection c2' with c2' c3'
                subst c1' c2' c3'
                go_wp2_with fail
                go_ret
                exact ⟨by simp, B10⟩
              · injection hz with c1' c2'
                injection c2' with c2' c3'
                subst c1' c2' c3'
                go_wp2_with fail
                go_ret
                exact ⟨by simp, B10⟩
            · subst e1 e2
              have hz : (c1, c2, c3) = ((1, 0, 0) : Ty) := hz
              injection hz with c1' c2'
              injection c2' with c2' c3'
              subst c1' c2' c3'
              go_wp2_with fail
              go_ret
              exact ⟨by simp, B10⟩
            · subst e1 e2
              injection hz with c1' c2'
              injection c2' with c2' c3'
              subst c1' c2' c3'
              go_wp2_with fail
              go_ret
              exact ⟨by simp, B10⟩
            · subst e1
              rcases e2 with rfl | rfl
              · injection hz with c1' c2'
                injection c2' with c2' c3'
                subst c1' c2' c3'
                go_wp2_with fail
                go_ret
                exact ⟨by simp, B10⟩
              · injection hz with c1' c2'
                injection c2' with c2' c3'
                subst c1' c2' c3'
                go_wp2_with fail
                go_ret
                exact ⟨by simp, B10⟩
    · have hs' : (150 : Int) < s := by omega
      go_wp2_with fail
      go_ret
      exact ⟨rfl, B4⟩
  · have hr' : (150 : Int) < r := by omega
    go_wp2_with fail
    go_ret
    exact ⟨rfl, B3⟩
end Go.Proofs.YteankdaegdhfiaaGreatDoor
/- The law TypesKids, a sixth of it. -/
namespace Go.Proofs.YteankdaegdhfiaaGreatDoor
open Go.RowKit

set_option maxHeartbeats 8000000 in
set_option maxRecDepth 20000 in
theorem kids2 (n : Int) (hh : n.tmod 6 = (2 : Int)) (a b : Ex) (cs ds : Array Value) (w : World) (hTa : TrP (fun _ : Nat => True) w a cs) (hTb : TrP (fun _ : Nat => True) w b ds) (hSa : Sm a) (hSb : Sm b) (he : Ev w) (het : Et w) : Calls Tryz.prog 8 #[.agg cs, .agg ds, .int .u8 n] w fun x w' => x = .returned (.bool true) ∧ Below w.heap.size w w' := by
  have HA : Hid _ := hTa
  have HB : Hid _ := hTb
  have rowa := hTa.row
  have rowb := hTb.row
  obtain ⟨vm0, vn0, ao0, cap0, eca, sm0, sn0, _, _⟩ := hTa.parts
  obtain ⟨am0, cm0, rfl, _⟩ := sm0
  obtain ⟨an0, cn0, rfl, _⟩ := sn0
  obtain ⟨vm1, vn1, ao1, cap1, ecb, sm1, sn1, _, _⟩ := hTb.parts
  obtain ⟨am1, cm1, rfl, _⟩ := sm1
  obtain ⟨an1, cn1, rfl, _⟩ := sn1
  have EA : Hid (cs = exA a.k a.p a.o a.v a.s (.slice am0 a.m.length cm0) a.r a.b1 a.b2 a.b3 a.b4 (.slice an0 a.ns.length cn0) (.slice ao0 a.ks.length cap0)) := eca
  have EB : Hid (ds = exA b.k b.p b.o b.v b.s (.slice am1 b.m.length cm1) b.r b.b1 b.b2 b.b3 b.b4 (.slice an1 b.ns.length cn1) (.slice ao1 b.ks.length cap1)) := ecb
  clear eca ecb
  have B1 := bal (bal (Below.refl w.heap.size w) (.cells cs 29)) (.cells ds 29)
  have qa := new_heap (heap_new w (.cells cs 29)) (.cells ds 29)
  have qb : ((w.alloc (.cells cs 29)).alloc (.cells ds 29)).heap[w.heap.size + 1]? = some (.cells ds 29) := by
    have h := heap_new (w.alloc (.cells cs 29)) (.cells ds 29)
    rw [size_new] at h
    exact h
  have HE : Hid (Ev w) := he
  have HT : Hid (Et w) := het
  have hkn := fun W (hW : Below w.heap.size w W) => tknown_any W (HE.out.later hW) (HT.out.later hW)
  have hca := fun W (hW : Below w.heap.size w W) => rcount_ok a hSa W cs 150 (HA.out.later hW) (by omega) (by omega)
  have hcb : ∀ W, Below w.heap.size w W → Calls Tryz.prog 29 #[.agg (exA b.k b.p b.o b.v b.s (.slice am1 b.m.length cm1) b.r b.b1 b.b2 b.b3 b.b4 (.slice an1 b.ns.length cn1) (.slice ao1 b.ks.length cap1)), .int .i64 150] W fun x w' => ∃ r, x = .returned (.int .i64 r) ∧ Cnt b 150 r ∧ Below W.heap.size W w' := fun W hW => by rw [← EB.out]; exact rcount_ok b hSb W ds 150 (HB.out.later hW) (by omega) (by omega)
  have hIa : ∀ W, Below w.heap.size w W → Calls Tryz.prog 19 #[.agg (exA a.k a.p a.o a.v a.s (.slice am0 a.m.length cm0) a.r a.b1 a.b2 a.b3 a.b4 (.slice an0 a.ns.length cn0) (.slice ao0 a.ks.length cap0))] W fun x w' => x = .returned (.bool (isE a)) ∧ Below W.heap.size W w' := fun W hW => by rw [← EA.out]; exact isE_any (HA.out.later hW) hSa
  have hIb : ∀ W, Below w.heap.size w W → Calls Tryz.prog 19 #[.agg (exA b.k b.p b.o b.v b.s (.slice am1 b.m.length cm1) b.r b.b1 b.b2 b.b3 b.b4 (.slice an1 b.ns.length cn1) (.slice ao1 b.ks.length cap1))] W fun x w' => x = .returned (.bool (isE b)) ∧ Below W.heap.size W w' := fun W hW => by rw [← EB.out]; exact isE_any (HB.out.later hW) hSb
  have hix := ixk2
  have HOa : Hid (∀ W, Below w.heap.size w W → Calls Tryz.prog 30 #[.agg cs] W fun x w' => x = .returned (tyV (ofE a)) ∧ Below W.heap.size W w') := fun W hW => of_any (HA.out.later hW) hSa (HT.out.later hW)
  have HOb : Hid (∀ W, Below w.heap.size w W → Calls Tryz.prog 30 #[.agg ds] W fun x w' => x = .returned (tyV (ofE b)) ∧ Below W.heap.size W w') := fun W hW => of_any (HB.out.later hW) hSb (HT.out.later hW)
  clear hTa hTb he het
  go_enter Tryz.func8, Tryz.ntmps8
  go_upto_region 1 with fail
  generalize (w.alloc (.cells cs 29)).alloc (.cells ds 29) = w1 at *
  go_wp2_with fail
  refine (hkn _ B1).mono ?_
  rintro x w2 ⟨rfl, b2⟩
  have B2 := B1.trans (b2.mono B1.size)
  have qa2 := below_heap b2 qa
  have qb2 := below_heap b2 qb
  clear hkn b2 qa qb
  go_upto_region 3 with fail
  go_wp2_with (refine wp_get rfl 29 _ rfl w.heap.size cs 29 rfl qa2 _ Tryz.underlying29 rfl 13 inf29 rowa.1 ?_)
  refine (hca _ B2).mono ?_
  rintro x w3 ⟨r, rfl, HC, b3⟩
  have B3 := B2.trans (b3.mono B2.size)
  have qa3 := below_heap b3 qa2
  have qb3 := below_heap b3 qb2
  clear hca b3 qa2 qb2
  by_cases hr : r ≤ 150
  · have hr' : ¬ (150 : Int) < r := by omega
    have HZa : Hid (sz a ≤ 150) := by have := HC.2.2.1 hr; show _ ≤ _; omega
    clear HC
    have x0 : w3.cell? ⟨w.heap.size + 1, 0, none⟩ = some (.int .i64 b.k) := (cell_at qb3 0).trans (by rw [EB.out]; rfl)
    have x1 : w3.cell? ⟨w.heap.size + 1, 1, none⟩ = some (.int .i64 b.p) := (cell_at qb3 1).trans (by rw [EB.out]; rfl)
    have x2 : w3.cell? ⟨w.heap.size + 1, 2, none⟩ = some (.bool b.o) := (cell_at qb3 2).trans (by rw [EB.out]; rfl)
    have x3 : w3.cell? ⟨w.heap.size + 1, 3, none⟩ = some (.int .i64 b.v) := (cell_at qb3 3).trans (by rw [EB.out]; rfl)
    have x4 : w3.cell? ⟨w.heap.size + 1, 4, none⟩ = some (tx b.s) := (cell_at qb3 4).trans (by rw [EB.out]; rfl)
    have x5 : w3.cell? ⟨w.heap.size + 1, 5, none⟩ = some (.slice am1 b.m.length cm1) := (cell_at qb3 5).trans (by rw [EB.out]; rfl)
    have x6 : w3.cell? ⟨w.heap.size + 1, 6, none⟩ = some (.int .i64 b.r) := (cell_at qb3 6).trans (by rw [EB.out]; rfl)
    have x7 : w3.cell? ⟨w.heap.size + 1, 7, none⟩ = some (.bool b.b1) := (cell_at qb3 7).trans (by rw [EB.out]; rfl)
    have x8 : w3.cell? ⟨w.heap.size + 1, 8, none⟩ = some (.bool b.b2) := (cell_at qb3 8).trans (by rw [EB.out]; rfl)
    have x9 : w3.cell? ⟨w.heap.size + 1, 9, none⟩ = some (.bool b.b3) := (cell_at qb3 9).trans (by rw [EB.out]; rfl)
    have x10 : w3.cell? ⟨w.heap.size + 1, 10, none⟩ = some (.bool b.b4) := (cell_at qb3 10).trans (by rw [EB.out]; rfl)
    have x11 : w3.cell? ⟨w.heap.size + 1, 11, none⟩ = some (.slice an1 b.ns.length cn1) := (cell_at qb3 11).trans (by rw [EB.out]; rfl)
    have x12 : w3.cell? ⟨w.heap.size + 1, 12, none⟩ = some (.slice ao1 b.ks.length cap1) := (cell_at qb3 12).trans (by rw [EB.out]; rfl)
    go_wp2_with fail
    refine (hcb _ B3).mono ?_
    rintro x w4 ⟨s, rfl, HC, b4⟩
    clear x0 x1 x2 x3 x4 x5 x6 x7 x8 x9 x10 x11 x12
    have B4 := B3.trans (b4.mono B3.size)
    have qa4 := below_heap b4 qa3
    have qb4 := below_heap b4 qb3
    clear hcb b4 qa3 qb3
    by_cases hs : s ≤ 150
    · have hs' : ¬ (150 : Int) < s := by omega
      have HZb : Hid (sz b ≤ 150) := by have := HC.2.2.1 hs; show _ ≤ _; omega
      clear HC
      have x0 : w4.cell? ⟨w.heap.size, 0, none⟩ = some (.int .i64 a.k) := (cell_at qa4 0).trans (by rw [EA.out]; rfl)
      have x1 : w4.cell? ⟨w.heap.size, 1, none⟩ = some (.int .i64 a.p) := (cell_at qa4 1).trans (by rw [EA.out]; rfl)
      have x2 : w4.cell? ⟨w.heap.size, 2, none⟩ = some (.bool a.o) := (cell_at qa4 2).trans (by rw [EA.out]; rfl)
      have x3 : w4.cell? ⟨w.heap.size, 3, none⟩ = some (.int .i64 a.v) := (cell_at qa4 3).trans (by rw [EA.out]; rfl)
      have x4 : w4.cell? ⟨w.heap.size, 4, none⟩ = some (tx a.s) := (cell_at qa4 4).trans (by rw [EA.out]; rfl)
      have x5 : w4.cell? ⟨w.heap.size, 5, none⟩ = some (.slice am0 a.m.length cm0) := (cell_at qa4 5).trans (by rw [EA.out]; rfl)
      have x6 : w4.cell? ⟨w.heap.size, 6, none⟩ = some (.int .i64 a.r) := (cell_at qa4 6).trans (by rw [EA.out]; rfl)
      have x7 : w4.cell? ⟨w.heap.size, 7, none⟩ = some (.bool a.b1) := (cell_at qa4 7).trans (by rw [EA.out]; rfl)
      have x8 : w4.cell? ⟨w.heap.size, 8, none⟩ = some (.bool a.b2) := (cell_at qa4 8).trans (by rw [EA.out]; rfl)
      have x9 : w4.cell? ⟨w.heap.size, 9, none⟩ = some (.bool a.b3) := (cell_at qa4 9).trans (by rw [EA.out]; rfl)
      have x10 : w4.cell? ⟨w.heap.size, 10, none⟩ = some (.bool a.b4) := (cell_at qa4 10).trans (by rw [EA.out]; rfl)
      have x11 : w4.cell? ⟨w.heap.size, 11, none⟩ = some (.slice an0 a.ns.length cn0) := (cell_at qa4 11).trans (by rw [EA.out]; rfl)
      have x12 : w4.cell? ⟨w.heap.size, 12, none⟩ = some (.slice ao0 a.ks.length cap0) := (cell_at qa4 12).trans (by rw [EA.out]; rfl)
      cases hqa : isE a with
      | false =>
        simp only [hqa] at hIa
        clear hqa HOa HOb HZa HZb
        go_wp2_with fail
        refine (hIa _ B4).mono ?_
        rintro x w5 ⟨rfl, b5⟩
        go_wp2_with fail
        go_ret
        exact ⟨rfl, B4.trans (b5.mono B4.size)⟩
      | true =>
        simp only [hqa] at hIa
        go_wp2_with fail
        refine (hIa _ B4).mono ?_
        rintro x w5 ⟨rfl, b5⟩
        clear x0 x1 x2 x3 x4 x5 x6 x7 x8 x9 x10 x11 x12
        have B5 := B4.trans (b5.mono B4.size)
        have qa5 := below_heap b5 qa4
        have qb5 := below_heap b5 qb4
        clear hIa b5 qa4 qb4
        have x0 : w5.cell? ⟨w.heap.size + 1, 0, none⟩ = some (.int .i64 b.k) := (cell_at qb5 0).trans (by rw [EB.out]; rfl)
        have x1 : w5.cell? ⟨w.heap.size + 1, 1, none⟩ = some (.int .i64 b.p) := (cell_at qb5 1).trans (by rw [EB.out]; rfl)
        have x2 : w5.cell? ⟨w.heap.size + 1, 2, none⟩ = some (.bool b.o) := (cell_at qb5 2).trans (by rw [EB.out]; rfl)
        have x3 : w5.cell? ⟨w.heap.size + 1, 3, none⟩ = some (.int .i64 b.v) := (cell_at qb5 3).trans (by rw [EB.out]; rfl)
        have x4 : w5.cell? ⟨w.heap.size + 1, 4, none⟩ = some (tx b.s) := (cell_at qb5 4).trans (by rw [EB.out]; rfl)
        have x5 : w5.cell? ⟨w.heap.size + 1, 5, none⟩ = some (.slice am1 b.m.length cm1) := (cell_at qb5 5).trans (by rw [EB.out]; rfl)
        have x6 : w5.cell? ⟨w.heap.size + 1, 6, none⟩ = some (.int .i64 b.r) := (cell_at qb5 6).trans (by rw [EB.out]; rfl)
        have x7 : w5.cell? ⟨w.heap.size + 1, 7, none⟩ = some (.bool b.b1) := (cell_at qb5 7).trans (by rw [EB.out]; rfl)
        have x8 : w5.cell? ⟨w.heap.size + 1, 8, none⟩ = some (.bool b.b2) := (cell_at qb5 8).trans (by rw [EB.out]; rfl)
        have x9 : w5.cell? ⟨w.heap.size + 1, 9, none⟩ = some (.bool b.b3) := (cell_at qb5 9).trans (by rw [EB.out]; rfl)
        have x10 : w5.cell? ⟨w.heap.size + 1, 10, none⟩ = some (.bool b.b4) := (cell_at qb5 10).trans (by rw [EB.out]; rfl)
        have x11 : w5.cell? ⟨w.heap.size + 1, 11, none⟩ = some (.slice an1 b.ns.length cn1) := (cell_at qb5 11).trans (by rw [EB.out]; rfl)
        have x12 : w5.cell? ⟨w.heap.size + 1, 12, none⟩ = some (.slice ao1 b.ks.length cap1) := (cell_at qb5 12).trans (by rw [EB.out]; rfl)
        cases hqb : isE b with
        | false =>
          simp only [hqb] at hIb
          clear hqb HOa HOb HZa HZb
          go_wp2_with fail
          refine (hIb _ B5).mono ?_
          rintro x w6 ⟨rfl, b6⟩
          go_wp2_with fail
          go_ret
          exact ⟨rfl, B5.trans (b6.mono B5.size)⟩
        | true =>
          simp only [hqb] at hIb
          have hoa := HOa.out
          have hob := HOb.out
          rw [show ofE a = tyE a by unfold ofE; rw [if_pos hqa]] at hoa
          rw [show ofE b = tyE b by unfold ofE; rw [if_pos hqb]] at hob
          have hcE : ofE (eBin 7 [42] false false [] a b) = tyE (eBin 7 [42] false false [] a b) := ofE_of (isE_bin 7 [42] a b (by kernel_rfl) (isE_snd hqa) (isE_snd hqb) HZa.out HZb.out) rfl
          have hwr := kdO_of a b [42]
          rw [show cmpB [42] = false by kernel_rfl] at hwr
          have hc := fun W cs' (h : TrP (fun _ : Nat => True) W (eBin 7 [42] false false [] a b) cs') hE => of_any h (Sm_two (big_of (by decide)) hSa hSb) hE
          simp only [hcE] at hc
          have HW : Hid _ := hwr
          clear hcE hwr HZa HZb HOa HOb hqa hqb
          generalize tyE a = O at *
          generalize tyE b = U at *
          generalize tyE (eBin 7 [42] false false [] a b) = C at *
          obtain ⟨o1, o2, o3⟩ := O
          obtain ⟨u1, u2, u3⟩ := U
          obtain ⟨c1, c2, c3⟩ := C
          go_wp2_with fail
          refine (hIb _ B5).mono ?_
          rintro x w6 ⟨rfl, b6⟩
          clear x0 x1 x2 x3 x4 x5 x6 x7 x8 x9 x10 x11 x12
          have B6 := B5.trans (b6.mono B5.size)
          have qa6 := below_heap b6 qa5
          have qb6 := below_heap b6 qb5
          clear hIb b6 qa5 qb5
          go_upto_region 5 with fail
          go_wp2_with (refine wp_get rfl 29 _ rfl w.heap.size cs 29 rfl qa6 _ Tryz.underlying29 rfl 13 inf29 rowa.1 ?_)
          refine (hoa _ B6).mono ?_
          rintro x w7 ⟨rfl, b7⟩
          have B7 := B6.trans (b7.mono B6.size)
          have qa7 := below_heap b7 qa6
          have qb7 := below_heap b7 qb6
          clear b7 qa6 qb6 hoa
          go_upto_region 6 with fail
          go_wp2_with (refine wp_get rfl 29 _ rfl (w.heap.size + 1) ds 29 rfl qb7 _ Tryz.underlying29 rfl 13 inf29 rowb.1 ?_)
          refine (hob _ B7).mono ?_
          rintro x w8 ⟨rfl, b8⟩
          have B8 := B7.trans (b8.mono B7.size)
          have qa8 := below_heap b8 qa7
          have qb8 := below_heap b8 qb7
          clear b8 qa7 qb7 hob
          go_upto_region 7 with fail
          obtain ⟨R, hR⟩ : ∃ R : Act → World → Prop, Hid (R = fun a' w' => ∃ g gk : Nat, ∃ v17 v18 v19 v20 v21 v22 v23 v24 v25 v26 v27 v28 v29 v30 v31 v32 v33 v34 v35 v36 v37 v38 v39 v40 v41 v42 v43 v44 v45 v46 v47 v48 v49 v50 v51 v52 v53 v54 v55 v56 : Value, a' = { tmps := #[.agg cs, .agg ds, .int .u8 n, .pointer (some ⟨w.heap.size, 0, none⟩), .pointer (some ⟨w.heap.size + 1, 0, none⟩), undef, .bool false, iv o1, iv o2, iv o3, iv u1, iv u2, iv u3, .pointer (some ⟨g, 0, none⟩), undef, undef, undef, v17, v18, v19, v20, v21, v22, v23, v24, v25, v26, v27, v28, v29, v30, v31, v32, v33, v34, v35, v36, v37, v38, v39, v40, v41, v42, v43, v44, v45, v46, v47, v48, v49, v50, v51, v52, v53, v54, v55, v56, undef, undef, undef, undef, undef, undef, undef, undef, undef, undef, undef, undef, undef, undef, undef, undef, undef, undef, undef, undef, undef, undef, undef, undef, undef, undef, undef, undef, undef, undef, undef, undef, undef, undef, undef, undef, undef, undef, undef, undef, undef, undef, undef, undef, undef, undef, undef, undef, undef, undef, undef, undef, undef, undef, undef, undef, undef, undef, undef, undef, undef, undef, undef, undef, undef, undef, undef, undef, undef, undef, undef, undef, undef, undef, undef, undef, undef, undef, undef, undef, undef, undef, undef, undef, undef, undef, undef], defers := [] } ∧ w'.heap[g]? = some (.cells (exA 5 7 false 0 [42] nl 0 false false false false nl (.slice (some ⟨gk, 0, none⟩) 2 2)) 29) ∧ w'.heap[gk]? = some (.cells (cs ++ ds) 29) ∧ w8.heap.size ≤ g ∧ w8.heap.size ≤ gk ∧ Below w8.heap.size w8 w') := ⟨_, rfl⟩
          refine region_mid R ?_ ?_
          · have C0 : Below w8.heap.size w8 w8.drew := (Below.refl _ _).drew
            refine wp_region_noPanic ?_
            refine wp_region_held_drew (S := fun W => Below w8.heap.size w8 W) (by kernel_rfl) ?_ (fun _ => ?_)
            · exact C0
            generalize w8.drew = wd at *
            have zC := C0.size
            refine take_at 0 (some 49) (.agg #[tx [43], tx [45], tx [42], tx [47], tx [62], tx [33, 61]]) rfl rfl (by kernel_rfl) (by kernel_rfl) (by kernel_rfl) (fun _ _ _ h => h) (by rfl) (fun W hSw => by go_simp) C0 ?_
            simp only [Act.put, List.setIfInBounds_toArray, List.set_cons_zero, List.set_cons_succ]
            refine take_at 1 (some 50) (.int .u8 n) rfl rfl (by kernel_rfl) (by kernel_rfl) (by kernel_rfl) (fun _ _ _ h => h) (by rfl) (fun W hSw => by go_simp) C0 ?_
            simp only [Act.put, List.setIfInBounds_toArray, List.set_cons_zero, List.set_cons_succ]
            refine take_at 2 (some 51) (.int .u8 2) rfl rfl (by kernel_rfl) (by kernel_rfl) (by kernel_rfl) (fun _ _ _ h => h) (by rfl) (fun W hSw => by go_simp) C0 ?_
            simp only [Act.put, List.setIfInBounds_toArray, List.set_cons_zero, List.set_cons_succ]
            refine take_at 3 (some 52) (tx [42]) rfl rfl (by kernel_rfl) (by kernel_rfl) (by kernel_rfl) (fun _ _ _ h => h) (by rfl) (fun W hSw => by go_simp) C0 ?_
            simp only [Act.put, List.setIfInBounds_toArray, List.set_cons_zero, List.set_cons_succ]
            refine take_at 4 (some 53) (.agg cs) rfl rfl (by kernel_rfl) (by kernel_rfl) (by kernel_rfl) (fun _ _ _ h => h) (by rfl) (fun W hSw => by exact exec_get 29 _ rfl w.heap.size cs 29 rfl W (below_heap hSw qa8) _ Tryz.underlying29 rfl 13 inf29 rowa.1) C0 ?_
            simp only [Act.put, List.setIfInBounds_toArray, List.set_cons_zero, List.set_cons_succ]
            refine take_at 5 (some 54) (.agg ds) rfl rfl (by kernel_rfl) (by kernel_rfl) (by kernel_rfl) (fun _ _ _ h => h) (by rfl) (fun W hSw => by exact exec_get 29 _ rfl (w.heap.size + 1) ds 29 rfl W (below_heap hSw qb8) _ Tryz.underlying29 rfl 13 inf29 rowb.1) C0 ?_
            simp only [Act.put, List.setIfInBounds_toArray, List.set_cons_zero, List.set_cons_succ]
            refine wpAnyH_ready (rs := [6, 8]) (by kernel_rfl) (by simp) ?_
            refine AllReadyH.cons rfl (fun K hK => ?_) (AllReadyH.cons rfl (fun K hK => ?_) AllReadyH.nil)
            · refine step_mk2 _ _ (some 55) rfl rfl (by rfl) cs ds rfl rfl rowa.1 rowb.1 ?_
              intro y1 k1 d1 s1
              have D1 := C0.trans (d1.mono zC)
              clear d1
              refine hK.out _ _ ?_ (fun _ => ?_)
              · exact D1
              clear hK K
              refine take_at 7 (some 56) (.agg (exA 5 7 false 0 [42] nl 0 false false false false nl (.slice (some ⟨wd.heap.size, 0, none⟩) 2 2))) rfl rfl (by kernel_rfl) (by kernel_rfl) (by kernel_rfl) (fun _ _ _ h => h) (by rfl) (fun W hSw => by go_simp) D1 ?_
              simp only [Act.put, List.setIfInBounds_toArray, List.set_cons_zero, List.set_cons_succ]
              refine wpAnyH_ready (rs := [8]) (by kernel_rfl) (by simp) ?_
              refine AllReadyH.cons rfl (fun K hK => ?_) AllReadyH.nil
              go_simp
              have D2 := bal D1 (.cells zE 29)
              have k2 := heap_new y1 (.cells zE 29)
              have k1' := new_heap k1 (.cells zE 29)
              generalize y1.alloc (.cells zE 29) = y2 at *
              refine hK.out _ _ ?_ (fun _ => ?_)
              · exact D2
              clear hK K
              refine wpAnyH_ready (rs := [9]) (by kernel_rfl) (by simp) ?_
              refine AllReadyH.cons rfl (fun K hK => ?_) AllReadyH.nil
              refine step_put 29 _ _ none rfl rfl (by rfl) y1.heap.size (exA 5 7 false 0 [42] nl 0 false false false false nl (.slice (some ⟨wd.heap.size, 0, none⟩) 2 2)) rfl rfl _ 29 k2 13 inf29 rfl ⟨rfl, rfl⟩ ?_
              intro y3 k3 o3' z3
              have k4 := o3'.heap k1' (by simp <;> omega)
              have D3 := ((Off.of D2 []).trans o3' (by simp <;> omega)).below (by simp)
              refine hK.out _ _ ?_ (fun _ => ?_)
              · exact D3
              clear hK K
              refine wpAnyH_done (by kernel_rfl) ?_ _
              refine NoPanic.normal ?_
              show R _ _
              rw [hR.out]
              exact ⟨y1.heap.size, wd.heap.size, _, _, _, _, _, _, _, _, _, _, _, _, _, _, _, _, _, _, _, _, _, _, _, _, _, _, _, _, _, _, _, _, _, _, _, _, _, _, _, _, rfl, k3, k4, by omega, by omega, D3⟩
            · go_simp
              have D1 := bal C0 (.cells zE 29)
              have k1 := heap_new wd (.cells zE 29)
              have s1 := size_le wd (.cells zE 29)
              generalize wd.alloc (.cells zE 29) = y1 at *
              refine hK.out _ _ ?_ (fun _ => ?_)
              · exact D1
              clear hK K
              refine wpAnyH_ready (rs := [6]) (by kernel_rfl) (by simp) ?_
              refine AllReadyH.cons rfl (fun K hK => ?_) AllReadyH.nil
              refine step_mk2 _ _ (some 55) rfl rfl (by rfl) cs ds rfl rfl rowa.1 rowb.1 ?_
              intro y2 k2 d2 s2
              have D2 := D1.trans (d2.mono D1.size)
              have k1' := below_heap d2 k1
              clear d2
              refine hK.out _ _ ?_ (fun _ => ?_)
              · exact D2
              clear hK K
              refine take_at 7 (some 56) (.agg (exA 5 7 false 0 [42] nl 0 false false false false nl (.slice (some ⟨y1.heap.size, 0, none⟩) 2 2))) rfl rfl (by kernel_rfl) (by kernel_rfl) (by kernel_rfl) (fun _ _ _ h => h) (by rfl) (fun W hSw => by go_simp) D2 ?_
              simp only [Act.put, List.setIfInBounds_toArray, List.set_cons_zero, List.set_cons_succ]
              refine wpAnyH_ready (rs := [9]) (by kernel_rfl) (by simp) ?_
              refine AllReadyH.cons rfl (fun K hK => ?_) AllReadyH.nil
              refine step_put 29 _ _ none rfl rfl (by rfl) wd.heap.size (exA 5 7 false 0 [42] nl 0 false false false false nl (.slice (some ⟨y1.heap.size, 0, none⟩) 2 2)) rfl rfl _ 29 k1' 13 inf29 rfl ⟨rfl, rfl⟩ ?_
              intro y3 k3 o3' z3
              have k4 := o3'.heap k2 (by simp <;> omega)
              have D3 := ((Off.of D2 []).trans o3' (by simp <;> omega)).below (by simp)
              refine hK.out _ _ ?_ (fun _ => ?_)
              · exact D3
              clear hK K
              refine wpAnyH_done (by kernel_rfl) ?_ _
              refine NoPanic.normal ?_
              show R _ _
              rw [hR.out]
              exact ⟨wd.heap.size, y1.heap.size, _, _, _, _, _, _, _, _, _, _, _, _, _, _, _, _, _, _, _, _, _, _, _, _, _, _, _, _, _, _, _, _, _, _, _, _, _, _, _, _, rfl, k3, k4, by omega, by omega, D3⟩
          intro a' w9 h
          rw [hR.out] at h
          obtain ⟨g, gk, v17, v18, v19, v20, v21, v22, v23, v24, v25, v26, v27, v28, v29, v30, v31, v32, v33, v34, v35, v36, v37, v38, v39, v40, v41, v42, v43, v44, v45, v46, v47, v48, v49, v50, v51, v52, v53, v54, v55, v56, rfl, Ng, Kg, Lg, Mg, b9⟩ := h
          clear hR R
          have B9 := B8.trans (b9.mono B8.size)
          have qa9 := below_heap b9 qa8
          have qb9 := below_heap b9 qb8
          clear b9 qa8 qb8
          go_upto_region 8 with fail
          go_wp2_with (refine wp_get rfl 29 _ rfl g _ 29 rfl Ng _ Tryz.underlying29 rfl 13 inf29 rfl ?_)
          refine (hc _ _ (node2 (HA.out.later B9) (HB.out.later B9) Kg) (HT.out.later B9)).mono ?_
          rintro x w10 ⟨rfl, b10⟩
          have B10 := B9.trans (b10.mono B9.size)
          have y1 : w10.cell? ⟨w.heap.size, 1, none⟩ = some (.int .i64 a.p) := (cell_at (below_heap b10 qa9) 1).trans (by rw [EA.out]; rfl)
          have z1 : w10.cell? ⟨w.heap.size + 1, 1, none⟩ = some (.int .i64 b.p) := (cell_at (below_heap b10 qb9) 1).trans (by rw [EB.out]; rfl)
          clear hc qa9 qb9 Ng Kg b10
          go_upto_region 9 with fail
          have hw := HW.out
          clear HW
          unfold kdO at hw
          rcases hw with ⟨h3, hz⟩ | ⟨h3, h4, hz⟩ | ⟨h3, h4, hw⟩
          · have t1 : (o3 != 0) = true := by rw [bne_iff_ne]; exact h3
            have t2 : (o3 == 0) = false := beq_eq_false_iff_ne.2 h3
            clear h3
            injection hz with c1' c2'
            injection c2' with c2' c3'
            subst c1' c2' c3'
            go_wp2_with fail
            go_ret
            exact ⟨by simp, B10⟩
          · subst h3
            have t1 : (u3 != 0) = true := by rw [bne_iff_ne]; exact h4
            have t2 : (u3 == 0) = false := beq_eq_false_iff_ne.2 h4
            clear h4
            injection hz with c1' c2'
            injection c2' with c2' c3'
            subst c1' c2' c3'
            go_wp2_with fail
            go_ret
            exact ⟨by simp, B10⟩
          · subst h3 h4
            rcases hw with ⟨e1, hz⟩ | ⟨e1, e2, hz⟩ | ⟨e1, e2, hz⟩ | ⟨e1, e2, hz⟩ | ⟨e1, e2, hz⟩
            · subst e1
              injection hz with c1' c2'
              injection c2' with c2' c3'
              subst c1' c2' c3'
              go_wp2_with fail
              go_ret
              exact ⟨by simp, B10⟩
            · subst e2
              rcases e1 with rfl | rfl
              · injection hz with c1' c2'
                injection c2' with c2' c3'
                subst c1' c2' c3'
                go_wp2_with fail
                go_ret
                exact ⟨by simp, B10⟩
              · injection hz with c1' c2'
                injection c2' with c2' c3'
                subst c1' c2' c3'
                go_wp2_with fail
                go_ret
                exact ⟨by simp, B10⟩
            · subst e1 e2
              have hz : (c1, c2, c3) = ((1, 0, 0) : Ty) := hz
              injection hz with c1' c2'
              injection c2' with c2' c3'
              subst c1' c2' c3'
              go_wp2_with fail
              go_ret
              exact ⟨by simp, B10⟩
            · subst e1 e2
              injection hz with c1' c2'
              injection c2' with c2' c3'
              subst c1' c2' c3'
              go_wp2_with fail
              go_ret
              exact ⟨by simp, B10⟩
            · subst e1
              rcases e2 with rfl | rfl
              · injection hz with c1' c2'
                injection c2' with c2' c3'
                subst c1' c2' c3'
                go_wp2_with fail
                go_ret
                exact ⟨by simp, B10⟩
              · injection hz with c1' c2'
                injection c2' with c2' c3'
                subst c1' c2' c3'
                go_wp2_with fail
                go_ret
                exact ⟨by simp, B10⟩
    · have hs' : (150 : Int) < s := by omega
      go_wp2_with fail
      go_ret
      exact ⟨rfl, B4⟩
  · have hr' : (150 : Int) < r := by omega
    go_wp2_with fail
    go_ret
    exact ⟨rfl, B3⟩
end Go.Proofs.YteankdaegdhfiaaGreatDoor
/- The law TypesKids, a sixth of it. -/
namespace Go.Proofs.YteankdaegdhfiaaGreatDoor
open Go.RowKit

set_option maxHeartbeats 8000000 in
set_option maxRecDepth 20000 in
theorem kids3 (n : Int) (hh : n.tmod 6 = (3 : Int)) (a b : Ex) (cs ds : Array Value) (w : World) (hTa : TrP (fun _ : Nat => True) w a cs) (hTb : TrP (fun _ : Nat => True) w b ds) (hSa : Sm a) (hSb : Sm b) (he : Ev w) (het : Et w) : Calls Tryz.prog 8 #[.agg cs, .agg ds, .int .u8 n] w fun x w' => x = .returned (.bool true) ∧ Below w.heap.size w w' := by
  have HA : Hid _ := hTa
  have HB : Hid _ := hTb
  have rowa := hTa.row
  have rowb := hTb.row
  obtain ⟨vm0, vn0, ao0, cap0, eca, sm0, sn0, _, _⟩ := hTa.parts
  obtain ⟨am0, cm0, rfl, _⟩ := sm0
  obtain ⟨an0, cn0, rfl, _⟩ := sn0
  obtain ⟨vm1, vn1, ao1, cap1, ecb, sm1, sn1, _, _⟩ := hTb.parts
  obtain ⟨am1, cm1, rfl, _⟩ := sm1
  obtain ⟨an1, cn1, rfl, _⟩ := sn1
  have EA : Hid (cs = exA a.k a.p a.o a.v a.s (.slice am0 a.m.length cm0) a.r a.b1 a.b2 a.b3 a.b4 (.slice an0 a.ns.length cn0) (.slice ao0 a.ks.length cap0)) := eca
  have EB : Hid (ds = exA b.k b.p b.o b.v b.s (.slice am1 b.m.length cm1) b.r b.b1 b.b2 b.b3 b.b4 (.slice an1 b.ns.length cn1) (.slice ao1 b.ks.length cap1)) := ecb
  clear eca ecb
  have B1 := bal (bal (Below.refl w.heap.size w) (.cells cs 29)) (.cells ds 29)
  have qa := new_heap (heap_new w (.cells cs 29)) (.cells ds 29)
  have qb : ((w.alloc (.cells cs 29)).alloc (.cells ds 29)).heap[w.heap.size + 1]? = some (.cells ds 29) := by
    have h := heap_new (w.alloc (.cells cs 29)) (.cells ds 29)
    rw [size_new] at h
    exact h
  have HE : Hid (Ev w) := he
  have HT : Hid (Et w) := het
  have hkn := fun W (hW : Below w.heap.size w W) => tknown_any W (HE.out.later hW) (HT.out.later hW)
  have hca := fun W (hW : Below w.heap.size w W) => rcount_ok a hSa W cs 150 (HA.out.later hW) (by omega) (by omega)
  have hcb : ∀ W, Below w.heap.size w W → Calls Tryz.prog 29 #[.agg (exA b.k b.p b.o b.v b.s (.slice am1 b.m.length cm1) b.r b.b1 b.b2 b.b3 b.b4 (.slice an1 b.ns.length cn1) (.slice ao1 b.ks.length cap1)), .int .i64 150] W fun x w' => ∃ r, x = .returned (.int .i64 r) ∧ Cnt b 150 r ∧ Below W.heap.size W w' := fun W hW => by rw [← EB.out]; exact rcount_ok b hSb W ds 150 (HB.out.later hW) (by omega) (by omega)
  have hIa : ∀ W, Below w.heap.size w W → Calls Tryz.prog 19 #[.agg (exA a.k a.p a.o a.v a.s (.slice am0 a.m.length cm0) a.r a.b1 a.b2 a.b3 a.b4 (.slice an0 a.ns.length cn0) (.slice ao0 a.ks.length cap0))] W fun x w' => x = .returned (.bool (isE a)) ∧ Below W.heap.size W w' := fun W hW => by rw [← EA.out]; exact isE_any (HA.out.later hW) hSa
  have hIb : ∀ W, Below w.heap.size w W → Calls Tryz.prog 19 #[.agg (exA b.k b.p b.o b.v b.s (.slice am1 b.m.length cm1) b.r b.b1 b.b2 b.b3 b.b4 (.slice an1 b.ns.length cn1) (.slice ao1 b.ks.length cap1))] W fun x w' => x = .returned (.bool (isE b)) ∧ Below W.heap.size W w' := fun W hW => by rw [← EB.out]; exact isE_any (HB.out.later hW) hSb
  have hix := ixk3
  have HOa : Hid (∀ W, Below w.heap.size w W → Calls Tryz.prog 30 #[.agg cs] W fun x w' => x = .returned (tyV (ofE a)) ∧ Below W.heap.size W w') := fun W hW => of_any (HA.out.later hW) hSa (HT.out.later hW)
  have HOb : Hid (∀ W, Below w.heap.size w W → Calls Tryz.prog 30 #[.agg ds] W fun x w' => x = .returned (tyV (ofE b)) ∧ Below W.heap.size W w') := fun W hW => of_any (HB.out.later hW) hSb (HT.out.later hW)
  clear hTa hTb he het
  go_enter Tryz.func8, Tryz.ntmps8
  go_upto_region 1 with fail
  generalize (w.alloc (.cells cs 29)).alloc (.cells ds 29) = w1 at *
  go_wp2_with fail
  refine (hkn _ B1).mono ?_
  rintro x w2 ⟨rfl, b2⟩
  have B2 := B1.trans (b2.mono B1.size)
  have qa2 := below_heap b2 qa
  have qb2 := below_heap b2 qb
  clear hkn b2 qa qb
  go_upto_region 3 with fail
  go_wp2_with (refine wp_get rfl 29 _ rfl w.heap.size cs 29 rfl qa2 _ Tryz.underlying29 rfl 13 inf29 rowa.1 ?_)
  refine (hca _ B2).mono ?_
  rintro x w3 ⟨r, rfl, HC, b3⟩
  have B3 := B2.trans (b3.mono B2.size)
  have qa3 := below_heap b3 qa2
  have qb3 := below_heap b3 qb2
  clear hca b3 qa2 qb2
  by_cases hr : r ≤ 150
  · have hr' : ¬ (150 : Int) < r := by omega
    have HZa : Hid (sz a ≤ 150) := by have := HC.2.2.1 hr; show _ ≤ _; omega
    clear HC
    have x0 : w3.cell? ⟨w.heap.size + 1, 0, none⟩ = some (.int .i64 b.k) := (cell_at qb3 0).trans (by rw [EB.out]; rfl)
    have x1 : w3.cell? ⟨w.heap.size + 1, 1, none⟩ = some (.int .i64 b.p) := (cell_at qb3 1).trans (by rw [EB.out]; rfl)
    have x2 : w3.cell? ⟨w.heap.size + 1, 2, none⟩ = some (.bool b.o) := (cell_at qb3 2).trans (by rw [EB.out]; rfl)
    have x3 : w3.cell? ⟨w.heap.size + 1, 3, none⟩ = some (.int .i64 b.v) := (cell_at qb3 3).trans (by rw [EB.out]; rfl)
    have x4 : w3.cell? ⟨w.heap.size + 1, 4, none⟩ = some (tx b.s) := (cell_at qb3 4).trans (by rw [EB.out]; rfl)
    have x5 : w3.cell? ⟨w.heap.size + 1, 5, none⟩ = some (.slice am1 b.m.length cm1) := (cell_at qb3 5).trans (by rw [EB.out]; rfl)
    have x6 : w3.cell? ⟨w.heap.size + 1, 6, none⟩ = some (.int .i64 b.r) := (cell_at qb3 6).trans (by rw [EB.out]; rfl)
    have x7 : w3.cell? ⟨w.heap.size + 1, 7, none⟩ = some (.bool b.b1) := (cell_at qb3 7).trans (by rw [EB.out]; rfl)
    have x8 : w3.cell? ⟨w.heap.size + 1, 8, none⟩ = some (.bool b.b2) := (cell_at qb3 8).trans (by rw [EB.out]; rfl)
    have x9 : w3.cell? ⟨w.heap.size + 1, 9, none⟩ = some (.bool b.b3) := (cell_at qb3 9).trans (by rw [EB.out]; rfl)
    have x10 : w3.cell? ⟨w.heap.size + 1, 10, none⟩ = some (.bool b.b4) := (cell_at qb3 10).trans (by rw [EB.out]; rfl)
    have x11 : w3.cell? ⟨w.heap.size + 1, 11, none⟩ = some (.slice an1 b.ns.length cn1) := (cell_at qb3 11).trans (by rw [EB.out]; rfl)
    have x12 : w3.cell? ⟨w.heap.size + 1, 12, none⟩ = some (.slice ao1 b.ks.length cap1) := (cell_at qb3 12).trans (by rw [EB.out]; rfl)
    go_wp2_with fail
    refine (hcb _ B3).mono ?_
    rintro x w4 ⟨s, rfl, HC, b4⟩
    clear x0 x1 x2 x3 x4 x5 x6 x7 x8 x9 x10 x11 x12
    have B4 := B3.trans (b4.mono B3.size)
    have qa4 := below_heap b4 qa3
    have qb4 := below_heap b4 qb3
    clear hcb b4 qa3 qb3
    by_cases hs : s ≤ 150
    · have hs' : ¬ (150 : Int) < s := by omega
      have HZb : Hid (sz b ≤ 150) := by have := HC.2.2.1 hs; show _ ≤ _; omega
      clear HC
      have x0 : w4.cell? ⟨w.heap.size, 0, none⟩ = some (.int .i64 a.k) := (cell_at qa4 0).trans (by rw [EA.out]; rfl)
      have x1 : w4.cell? ⟨w.heap.size, 1, none⟩ = some (.int .i64 a.p) := (cell_at qa4 1).trans (by rw [EA.out]; rfl)
      have x2 : w4.cell? ⟨w.heap.size, 2, none⟩ = some (.bool a.o) := (cell_at qa4 2).trans (by rw [EA.out]; rfl)
      have x3 : w4.cell? ⟨w.heap.size, 3, none⟩ = some (.int .i64 a.v) := (cell_at qa4 3).trans (by rw [EA.out]; rfl)
      have x4 : w4.cell? ⟨w.heap.size, 4, none⟩ = some (tx a.s) := (cell_at qa4 4).trans (by rw [EA.out]; rfl)
      have x5 : w4.cell? ⟨w.heap.size, 5, none⟩ = some (.slice am0 a.m.length cm0) := (cell_at qa4 5).trans (by rw [EA.out]; rfl)
      have x6 : w4.cell? ⟨w.heap.size, 6, none⟩ = some (.int .i64 a.r) := (cell_at qa4 6).trans (by rw [EA.out]; rfl)
      have x7 : w4.cell? ⟨w.heap.size, 7, none⟩ = some (.bool a.b1) := (cell_at qa4 7).trans (by rw [EA.out]; rfl)
      have x8 : w4.cell? ⟨w.heap.size, 8, none⟩ = some (.bool a.b2) := (cell_at qa4 8).trans (by rw [EA.out]; rfl)
      have x9 : w4.cell? ⟨w.heap.size, 9, none⟩ = some (.bool a.b3) := (cell_at qa4 9).trans (by rw [EA.out]; rfl)
      have x10 : w4.cell? ⟨w.heap.size, 10, none⟩ = some (.bool a.b4) := (cell_at qa4 10).trans (by rw [EA.out]; rfl)
      have x11 : w4.cell? ⟨w.heap.size, 11, none⟩ = some (.slice an0 a.ns.length cn0) := (cell_at qa4 11).trans (by rw [EA.out]; rfl)
      have x12 : w4.cell? ⟨w.heap.size, 12, none⟩ = some (.slice ao0 a.ks.length cap0) := (cell_at qa4 12).trans (by rw [EA.out]; rfl)
      cases hqa : isE a with
      | false =>
        simp only [hqa] at hIa
        clear hqa HOa HOb HZa HZb
        go_wp2_with fail
        refine (hIa _ B4).mono ?_
        rintro x w5 ⟨rfl, b5⟩
        go_wp2_with fail
        go_ret
        exact ⟨rfl, B4.trans (b5.mono B4.size)⟩
      | true =>
        simp only [hqa] at hIa
        go_wp2_with fail
        refine (hIa _ B4).mono ?_
        rintro x w5 ⟨rfl, b5⟩
        clear x0 x1 x2 x3 x4 x5 x6 x7 x8 x9 x10 x11 x12
        have B5 := B4.trans (b5.mono B4.size)
        have qa5 := below_heap b5 qa4
        have qb5 := below_heap b5 qb4
        clear hIa b5 qa4 qb4
        have x0 : w5.cell? ⟨w.heap.size + 1, 0, none⟩ = some (.int .i64 b.k) := (cell_at qb5 0).trans (by rw [EB.out]; rfl)
        have x1 : w5.cell? ⟨w.heap.size + 1, 1, none⟩ = some (.int .i64 b.p) := (cell_at qb5 1).trans (by rw [EB.out]; rfl)
        have x2 : w5.cell? ⟨w.heap.size + 1, 2, none⟩ = some (.bool b.o) := (cell_at qb5 2).trans (by rw [EB.out]; rfl)
        have x3 : w5.cell? ⟨w.heap.size + 1, 3, none⟩ = some (.int .i64 b.v) := (cell_at qb5 3).trans (by rw [EB.out]; rfl)
        have x4 : w5.cell? ⟨w.heap.size + 1, 4, none⟩ = some (tx b.s) := (cell_at qb5 4).trans (by rw [EB.out]; rfl)
        have x5 : w5.cell? ⟨w.heap.size + 1, 5, none⟩ = some (.slice am1 b.m.length cm1) := (cell_at qb5 5).trans (by rw [EB.out]; rfl)
        have x6 : w5.cell? ⟨w.heap.size + 1, 6, none⟩ = some (.int .i64 b.r) := (cell_at qb5 6).trans (by rw [EB.out]; rfl)
        have x7 : w5.cell? ⟨w.heap.size + 1, 7, none⟩ = some (.bool b.b1) := (cell_at qb5 7).trans (by rw [EB.out]; rfl)
        have x8 : w5.cell? ⟨w.heap.size + 1, 8, none⟩ = some (.bool b.b2) := (cell_at qb5 8).trans (by rw [EB.out]; rfl)
        have x9 : w5.cell? ⟨w.heap.size + 1, 9, none⟩ = some (.bool b.b3) := (cell_at qb5 9).trans (by rw [EB.out]; rfl)
        have x10 : w5.cell? ⟨w.heap.size + 1, 10, none⟩ = some (.bool b.b4) := (cell_at qb5 10).trans (by rw [EB.out]; rfl)
        have x11 : w5.cell? ⟨w.heap.size + 1, 11, none⟩ = some (.slice an1 b.ns.length cn1) := (cell_at qb5 11).trans (by rw [EB.out]; rfl)
        have x12 : w5.cell? ⟨w.heap.size + 1, 12, none⟩ = some (.slice ao1 b.ks.length cap1) := (cell_at qb5 12).trans (by rw [EB.out]; rfl)
        cases hqb : isE b with
        | false =>
          simp only [hqb] at hIb
          clear hqb HOa HOb HZa HZb
          go_wp2_with fail
          refine (hIb _ B5).mono ?_
          rintro x w6 ⟨rfl, b6⟩
          go_wp2_with fail
          go_ret
          exact ⟨rfl, B5.trans (b6.mono B5.size)⟩
        | true =>
          simp only [hqb] at hIb
          have hoa := HOa.out
          have hob := HOb.out
          rw [show ofE a = tyE a by unfold ofE; rw [if_pos hqa]] at hoa
          rw [show ofE b = tyE b by unfold ofE; rw [if_pos hqb]] at hob
          have hcE : ofE (eBin 7 [47] false false [] a b) = tyE (eBin 7 [47] false false [] a b) := ofE_of (isE_bin 7 [47] a b (by kernel_rfl) (isE_snd hqa) (isE_snd hqb) HZa.out HZb.out) rfl
          have hwr := kdO_of a b [47]
          rw [show cmpB [47] = false by kernel_rfl] at hwr
          have hc := fun W cs' (h : TrP (fun _ : Nat => True) W (eBin 7 [47] false false [] a b) cs') hE => of_any h (Sm_two (big_of (by decide)) hSa hSb) hE
          simp only [hcE] at hc
          have HW : Hid _ := hwr
          clear hcE hwr HZa HZb HOa HOb hqa hqb
          generalize tyE a = O at *
          generalize tyE b = U at *
          generalize tyE (eBin 7 [47] false false [] a b) = C at *
          obtain ⟨o1, o2, o3⟩ := O
          obtain ⟨u1, u2, u3⟩ := U
          obtain ⟨c1, c2, c3⟩ := C
          go_wp2_with fail
          refine (hIb _ B5).mono ?_
          rintro x w6 ⟨rfl, b6⟩
          clear x0 x1 x2 x3 x4 x5 x6 x7 x8 x9 x10 x11 x12
          have B6 := B5.trans (b6.mono B5.size)
          have qa6 := below_heap b6 qa5
          have qb6 := below_heap b6 qb5
          clear hIb b6 qa5 qb5
          go_upto_region 5 with fail
          go_wp2_with (refine wp_get rfl 29 _ rfl w.heap.size cs 29 rfl qa6 _ Tryz.underlying29 rfl 13 inf29 rowa.1 ?_)
          refine (hoa _ B6).mono ?_
          rintro x w7 ⟨rfl, b7⟩
          have B7 := B6.trans (b7.mono B6.size)
          have qa7 := below_heap b7 qa6
          have qb7 := below_heap b7 qb6
          clear b7 qa6 qb6 hoa
          go_upto_region 6 with fail
          go_wp2_with (refine wp_get rfl 29 _ rfl (w.heap.size + 1) ds 29 rfl qb7 _ Tryz.underlying29 rfl 13 inf29 rowb.1 ?_)
          refine (hob _ B7).mono ?_
          rintro x w8 ⟨rfl, b8⟩
          have B8 := B7.trans (b8.mono B7.size)
          have qa8 := below_heap b8 qa7
          have qb8 := below_heap b8 qb7
          clear b8 qa7 qb7 hob
          go_upto_region 7 with fail
          obtain ⟨R, hR⟩ : ∃ R : Act → World → Prop, Hid (R = fun a' w' => ∃ g gk : Nat, ∃ v17 v18 v19 v20 v21 v22 v23 v24 v25 v26 v27 v28 v29 v30 v31 v32 v33 v34 v35 v36 v37 v38 v39 v40 v41 v42 v43 v44 v45 v46 v47 v48 v49 v50 v51 v52 v53 v54 v55 v56 : Value, a' = { tmps := #[.agg cs, .agg ds, .int .u8 n, .pointer (some ⟨w.heap.size, 0, none⟩), .pointer (some ⟨w.heap.size + 1, 0, none⟩), undef, .bool false, iv o1, iv o2, iv o3, iv u1, iv u2, iv u3, .pointer (some ⟨g, 0, none⟩), undef, undef, undef, v17, v18, v19, v20, v21, v22, v23, v24, v25, v26, v27, v28, v29, v30, v31, v32, v33, v34, v35, v36, v37, v38, v39, v40, v41, v42, v43, v44, v45, v46, v47, v48, v49, v50, v51, v52, v53, v54, v55, v56, undef, undef, undef, undef, undef, undef, undef, undef, undef, undef, undef, undef, undef, undef, undef, undef, undef, undef, undef, undef, undef, undef, undef, undef, undef, undef, undef, undef, undef, undef, undef, undef, undef, undef, undef, undef, undef, undef, undef, undef, undef, undef, undef, undef, undef, undef, undef, undef, undef, undef, undef, undef, undef, undef, undef, undef, undef, undef, undef, undef, undef, undef, undef, undef, undef, undef, undef, undef, undef, undef, undef, undef, undef, undef, undef, undef, undef, undef, undef, undef, undef, undef, undef, undef, undef, undef, undef], defers := [] } ∧ w'.heap[g]? = some (.cells (exA 5 7 false 0 [47] nl 0 false false false false nl (.slice (some ⟨gk, 0, none⟩) 2 2)) 29) ∧ w'.heap[gk]? = some (.cells (cs ++ ds) 29) ∧ w8.heap.size ≤ g ∧ w8.heap.size ≤ gk ∧ Below w8.heap.size w8 w') := ⟨_, rfl⟩
          refine region_mid R ?_ ?_
          · have C0 : Below w8.heap.size w8 w8.drew := (Below.refl _ _).drew
            refine wp_region_noPanic ?_
            refine wp_region_held_drew (S := fun W => Below w8.heap.size w8 W) (by kernel_rfl) ?_ (fun _ => ?_)
            · exact C0
            generalize w8.drew = wd at *
            have zC := C0.size
            refine take_at 0 (some 49) (.agg #[tx [43], tx [45], tx [42], tx [47], tx [62], tx [33, 61]]) rfl rfl (by kernel_rfl) (by kernel_rfl) (by kernel_rfl) (fun _ _ _ h => h) (by rfl) (fun W hSw => by go_simp) C0 ?_
            simp only [Act.put, List.setIfInBounds_toArray, List.set_cons_zero, List.set_cons_succ]
            refine take_at 1 (some 50) (.int .u8 n) rfl rfl (by kernel_rfl) (by kernel_rfl) (by kernel_rfl) (fun _ _ _ h => h) (by rfl) (fun W hSw => by go_simp) C0 ?_
            simp only [Act.put, List.setIfInBounds_toArray, List.set_cons_zero, List.set_cons_succ]
            refine take_at 2 (some 51) (.int .u8 3) rfl rfl (by kernel_rfl) (by kernel_rfl) (by kernel_rfl) (fun _ _ _ h => h) (by rfl) (fun W hSw => by go_simp) C0 ?_
            simp only [Act.put, List.setIfInBounds_toArray, List.set_cons_zero, List.set_cons_succ]
            refine take_at 3 (some 52) (tx [47]) rfl rfl (by kernel_rfl) (by kernel_rfl) (by kernel_rfl) (fun _ _ _ h => h) (by rfl) (fun W hSw => by go_simp) C0 ?_
            simp only [Act.put, List.setIfInBounds_toArray, List.set_cons_zero, List.set_cons_succ]
            refine take_at 4 (some 53) (.agg cs) rfl rfl (by kernel_rfl) (by kernel_rfl) (by kernel_rfl) (fun _ _ _ h => h) (by rfl) (fun W hSw => by exact exec_get 29 _ rfl w.heap.size cs 29 rfl W (below_heap hSw qa8) _ Tryz.underlying29 rfl 13 inf29 rowa.1) C0 ?_
            simp only [Act.put, List.setIfInBounds_toArray, List.set_cons_zero, List.set_cons_succ]
            refine take_at 5 (some 54) (.agg ds) rfl rfl (by kernel_rfl) (by kernel_rfl) (by kernel_rfl) (fun _ _ _ h => h) (by rfl) (fun W hSw => by exact exec_get 29 _ rfl (w.heap.size + 1) ds 29 rfl W (below_heap hSw qb8) _ Tryz.underlying29 rfl 13 inf29 rowb.1) C0 ?_
            simp only [Act.put, List.setIfInBounds_toArray, List.set_cons_zero, List.set_cons_succ]
            refine wpAnyH_ready (rs := [6, 8]) (by kernel_rfl) (by simp) ?_
            refine AllReadyH.cons rfl (fun K hK => ?_) (AllReadyH.cons rfl (fun K hK => ?_) AllReadyH.nil)
            · refine step_mk2 _ _ (some 55) rfl rfl (by rfl) cs ds rfl rfl rowa.1 rowb.1 ?_
              intro y1 k1 d1 s1
              have D1 := C0.trans (d1.mono zC)
              clear d1
              refine hK.out _ _ ?_ (fun _ => ?_)
              · exact D1
              clear hK K
              refine take_at 7 (some 56) (.agg (exA 5 7 false 0 [47] nl 0 false false false false nl (.slice (some ⟨wd.heap.size, 0, none⟩) 2 2))) rfl rfl (by kernel_rfl) (by kernel_rfl) (by kernel_rfl) (fun _ _ _ h => h) (by rfl) (fun W hSw => by go_simp) D1 ?_
              simp only [Act.put, List.setIfInBounds_toArray, List.set_cons_zero, List.set_cons_succ]
              refine wpAnyH_ready (rs := [8]) (by kernel_rfl) (by simp) ?_
              refine AllReadyH.cons rfl (fun K hK => ?_) AllReadyH.nil
              go_simp
              have D2 := bal D1 (.cells zE 29)
              have k2 := heap_new y1 (.cells zE 29)
              have k1' := new_heap k1 (.cells zE 29)
              generalize y1.alloc (.cells zE 29) = y2 at *
              refine hK.out _ _ ?_ (fun _ => ?_)
              · exact D2
              clear hK K
              refine wpAnyH_ready (rs := [9]) (by kernel_rfl) (by simp) ?_
              refine AllReadyH.cons rfl (fun K hK => ?_) AllReadyH.nil
              refine step_put 29 _ _ none rfl rfl (by rfl) y1.heap.size (exA 5 7 false 0 [47] nl 0 false false false false nl (.slice (some ⟨wd.heap.size, 0, none⟩) 2 2)) rfl rfl _ 29 k2 13 inf29 rfl ⟨rfl, rfl⟩ ?_
              intro y3 k3 o3' z3
              have k4 := o3'.heap k1' (by simp <;> omega)
              have D3 := ((Off.of D2 []).trans o3' (by simp <;> omega)).below (by simp)
              refine hK.out _ _ ?_ (fun _ => ?_)
              · exact D3
              clear hK K
              refine wpAnyH_done (by kernel_rfl) ?_ _
              refine NoPanic.normal ?_
              show R _ _
              rw [hR.out]
              exact ⟨y1.heap.size, wd.heap.size, _, _, _, _, _, _, _, _, _, _, _, _, _, _, _, _, _, _, _, _, _, _, _, _, _, _, _, _, _, _, _, _, _, _, _, _, _, _, _, _, rfl, k3, k4, by omega, by omega, D3⟩
            · go_simp
              have D1 := bal C0 (.cells zE 29)
              have k1 := heap_new wd (.cells zE 29)
              have s1 := size_le wd (.cells zE 29)
              generalize wd.alloc (.cells zE 29) = y1 at *
              refine hK.out _ _ ?_ (fun _ => ?_)
              · exact D1
              clear hK K
              refine wpAnyH_ready (rs := [6]) (by kernel_rfl) (by simp) ?_
              refine AllReadyH.cons rfl (fun K hK => ?_) AllReadyH.nil
              refine step_mk2 _ _ (some 55) rfl rfl (by rfl) cs ds rfl rfl rowa.1 rowb.1 ?_
              intro y2 k2 d2 s2
              have D2 := D1.trans (d2.mono D1.size)
              have k1' := below_heap d2 k1
              clear d2
              refine hK.out _ _ ?_ (fun _ => ?_)
              · exact D2
              clear hK K
              refine take_at 7 (some 56) (.agg (exA 5 7 false 0 [47] nl 0 false false false false nl (.slice (some ⟨y1.heap.size, 0, none⟩) 2 2))) rfl rfl (by kernel_rfl) (by kernel_rfl) (by kernel_rfl) (fun _ _ _ h => h) (by rfl) (fun W hSw => by go_simp) D2 ?_
              simp only [Act.put, List.setIfInBounds_toArray, List.set_cons_zero, List.set_cons_succ]
              refine wpAnyH_ready (rs := [9]) (by kernel_rfl) (by simp) ?_
              refine AllReadyH.cons rfl (fun K hK => ?_) AllReadyH.nil
              refine step_put 29 _ _ none rfl rfl (by rfl) wd.heap.size (exA 5 7 false 0 [47] nl 0 false false false false nl (.slice (some ⟨y1.heap.size, 0, none⟩) 2 2)) rfl rfl _ 29 k1' 13 inf29 rfl ⟨rfl, rfl⟩ ?_
              intro y3 k3 o3' z3
              have k4 := o3'.heap k2 (by simp <;> omega)
              have D3 := ((Off.of D2 []).trans o3' (by simp <;> omega)).below (by simp)
              refine hK.out _ _ ?_ (fun _ => ?_)
              · exact D3
              clear hK K
              refine wpAnyH_done (by kernel_rfl) ?_ _
              refine NoPanic.normal ?_
              show R _ _
              rw [hR.out]
              exact ⟨wd.heap.size, y1.heap.size, _, _, _, _, _, _, _, _, _, _, _, _, _, _, _, _, _, _, _, _, _, _, _, _, _, _, _, _, _, _, _, _, _, _, _, _, _, _, _, _, rfl, k3, k4, by omega, by omega, D3⟩
          intro a' w9 h
          rw [hR.out] at h
          obtain ⟨g, gk, v17, v18, v19, v20, v21, v22, v23, v24, v25, v26, v27, v28, v29, v30, v31, v32, v33, v34, v35, v36, v37, v38, v39, v40, v41, v42, v43, v44, v45, v46, v47, v48, v49, v50, v51, v52, v53, v54, v55, v56, rfl, Ng, Kg, Lg, Mg, b9⟩ := h
          clear hR R
          have B9 := B8.trans (b9.mono B8.size)
          have qa9 := below_heap b9 qa8
          have qb9 := below_heap b9 qb8
          clear b9 qa8 qb8
          go_upto_region 8 with fail
          go_wp2_with (refine wp_get rfl 29 _ rfl g _ 29 rfl Ng _ Tryz.underlying29 rfl 13 inf29 rfl ?_)
          refine (hc _ _ (node2 (HA.out.later B9) (HB.out.later B9) Kg) (HT.out.later B9)).mono ?_
          rintro x w10 ⟨rfl, b10⟩
          have B10 := B9.trans (b10.mono B9.size)
          have y1 : w10.cell? ⟨w.heap.size, 1, none⟩ = some (.int .i64 a.p) := (cell_at (below_heap b10 qa9) 1).trans (by rw [EA.out]; rfl)
          have z1 : w10.cell? ⟨w.heap.size + 1, 1, none⟩ = some (.int .i64 b.p) := (cell_at (below_heap b10 qb9) 1).trans (by rw [EB.out]; rfl)
          clear hc qa9 qb9 Ng Kg b10
          go_upto_region 9 with fail
          have hw := HW.out
          clear HW
          unfold kdO at hw
          rcases hw with ⟨h3, hz⟩ | ⟨h3, h4, hz⟩ | ⟨h3, h4, hw⟩
          · have t1 : (o3 != 0) = true := by rw [bne_iff_ne]; exact h3
            have t2 : (o3 == 0) = false := beq_eq_false_iff_ne.2 h3
            clear h3
            injection hz with c1' c2'
            injection c2' with c2' c3'
            subst c1' c2' c3'
            go_wp2_with fail
            go_ret
            exact ⟨by simp, B10⟩
          · subst h3
            have t1 : (u3 != 0) = true := by rw [bne_iff_ne]; exact h4
            have t2 : (u3 == 0) = false := beq_eq_false_iff_ne.2 h4
            clear h4
            injection hz with c1' c2'
            injection c2' with c2' c3'
            subst c1' c2' c3'
            go_wp2_with fail
            go_ret
            exact ⟨by simp, B10⟩
          · subst h3 h4
            rcases hw with ⟨e1, hz⟩ | ⟨e1, e2, hz⟩ | ⟨e1, e2, hz⟩ | ⟨e1, e2, hz⟩ | ⟨e1, e2, hz⟩
            · subst e1
              injection hz with c1' c2'
              injection c2' with c2' c3'
              subst c1' c2' c3'
              go_wp2_with fail
              go_ret
              exact ⟨by simp, B10⟩
            · subst e2
              rcases e1 with rfl | rfl
              · injection hz with c1' c2'
                injection c2' with c2' c3'
                subst c1' c2' c3'
                go_wp2_with fail
                go_ret
                exact ⟨by simp, B10⟩
              · injection hz with c1' c2'
                injection c2' with c2' c3'
                subst c1' c2' c3'
                go_wp2_with fail
                go_ret
                exact ⟨by simp, B10⟩
            · subst e1 e2
              have hz : (c1, c2, c3) = ((1, 0, 0) : Ty) := hz
              injection hz with c1' c2'
              injection c2' with c2' c3'
              subst c1' c2' c3'
              go_wp2_with fail
              go_ret
              exact ⟨by simp, B10⟩
            · subst e1 e2
              injection hz with c1' c2'
              injection c2' with c2' c3'
              subst c1' c2' c3'
              go_wp2_with fail
              go_ret
              exact ⟨by simp, B10⟩
            · subst e1
              rcases e2 with rfl | rfl
              · injection hz with c1' c2'
                injection c2' with c2' c3'
                subst c1' c2' c3'
                go_wp2_with fail
                go_ret
                exact ⟨by simp, B10⟩
              · injection hz with c1' c2'
                injection c2' with c2' c3'
                subst c1' c2' c3'
                go_wp2_with fail
                go_ret
                exact ⟨by simp, B10⟩
    · have hs' : (150 : Int) < s := by omega
      go_wp2_with fail
      go_ret
      exact ⟨rfl, B4⟩
  · have hr' : (150 : Int) < r := by omega
    go_wp2_with fail
    go_ret
    exact ⟨rfl, B3⟩
end Go.Proofs.YteankdaegdhfiaaGreatDoor
/- The law TypesKids, a sixth of it. -/
namespace Go.Proofs.YteankdaegdhfiaaGreatDoor
open Go.RowKit

set_option maxHeartbeats 8000000 in
set_option maxRecDepth 20000 in
theorem kids4 (n : Int) (hh : n.tmod 6 = (4 : Int)) (a b : Ex) (cs ds : Array Value) (w : World) (hTa : TrP (fun _ : Nat => True) w a cs) (hTb : TrP (fun _ : Nat => True) w b ds) (hSa : Sm a) (hSb : Sm b) (he : Ev w) (het : Et w) : Calls Tryz.prog 8 #[.agg cs, .agg ds, .int .u8 n] w fun x w' => x = .returned (.bool true) ∧ Below w.heap.size w w' := by
  have HA : Hid _ := hTa
  have HB : Hid _ := hTb
  have rowa := hTa.row
  have rowb := hTb.row
  obtain ⟨vm0, vn0, ao0, cap0, eca, sm0, sn0, _, _⟩ := hTa.parts
  obtain ⟨am0, cm0, rfl, _⟩ := sm0
  obtain ⟨an0, cn0, rfl, _⟩ := sn0
  obtain ⟨vm1, vn1, ao1, cap1, ecb, sm1, sn1, _, _⟩ := hTb.parts
  obtain ⟨am1, cm1, rfl, _⟩ := sm1
  obtain ⟨an1, cn1, rfl, _⟩ := sn1
  have EA : Hid (cs = exA a.k a.p a.o a.v a.s (.slice am0 a.m.length cm0) a.r a.b1 a.b2 a.b3 a.b4 (.slice an0 a.ns.length cn0) (.slice ao0 a.ks.length cap0)) := eca
  have EB : Hid (ds = exA b.k b.p b.o b.v b.s (.slice am1 b.m.length cm1) b.r b.b1 b.b2 b.b3 b.b4 (.slice an1 b.ns.length cn1) (.slice ao1 b.ks.length cap1)) := ecb
  clear eca ecb
  have B1 := bal (bal (Below.refl w.heap.size w) (.cells cs 29)) (.cells ds 29)
  have qa := new_heap (heap_new w (.cells cs 29)) (.cells ds 29)
  have qb : ((w.alloc (.cells cs 29)).alloc (.cells ds 29)).heap[w.heap.size + 1]? = some (.cells ds 29) := by
    have h := heap_new (w.alloc (.cells cs 29)) (.cells ds 29)
    rw [size_new] at h
    exact h
  have HE : Hid (Ev w) := he
  have HT : Hid (Et w) := het
  have hkn := fun W (hW : Below w.heap.size w W) => tknown_any W (HE.out.later hW) (HT.out.later hW)
  have hca := fun W (hW : Below w.heap.size w W) => rcount_ok a hSa W cs 150 (HA.out.later hW) (by omega) (by omega)
  have hcb : ∀ W, Below w.heap.size w W → Calls Tryz.prog 29 #[.agg (exA b.k b.p b.o b.v b.s (.slice am1 b.m.length cm1) b.r b.b1 b.b2 b.b3 b.b4 (.slice an1 b.ns.length cn1) (.slice ao1 b.ks.length cap1)), .int .i64 150] W fun x w' => ∃ r, x = .returned (.int .i64 r) ∧ Cnt b 150 r ∧ Below W.heap.size W w' := fun W hW => by rw [← EB.out]; exact rcount_ok b hSb W ds 150 (HB.out.later hW) (by omega) (by omega)
  have hIa : ∀ W, Below w.heap.size w W → Calls Tryz.prog 19 #[.agg (exA a.k a.p a.o a.v a.s (.slice am0 a.m.length cm0) a.r a.b1 a.b2 a.b3 a.b4 (.slice an0 a.ns.length cn0) (.slice ao0 a.ks.length cap0))] W fun x w' => x = .returned (.bool (isE a)) ∧ Below W.heap.size W w' := fun W hW => by rw [← EA.out]; exact isE_any (HA.out.later hW) hSa
  have hIb : ∀ W, Below w.heap.size w W → Calls Tryz.prog 19 #[.agg (exA b.k b.p b.o b.v b.s (.slice am1 b.m.length cm1) b.r b.b1 b.b2 b.b3 b.b4 (.slice an1 b.ns.length cn1) (.slice ao1 b.ks.length cap1))] W fun x w' => x = .returned (.bool (isE b)) ∧ Below W.heap.size W w' := fun W hW => by rw [← EB.out]; exact isE_any (HB.out.later hW) hSb
  have hix := ixk4
  have HOa : Hid (∀ W, Below w.heap.size w W → Calls Tryz.prog 30 #[.agg cs] W fun x w' => x = .returned (tyV (ofE a)) ∧ Below W.heap.size W w') := fun W hW => of_any (HA.out.later hW) hSa (HT.out.later hW)
  have HOb : Hid (∀ W, Below w.heap.size w W → Calls Tryz.prog 30 #[.agg ds] W fun x w' => x = .returned (tyV (ofE b)) ∧ Below W.heap.size W w') := fun W hW => of_any (HB.out.later hW) hSb (HT.out.later hW)
  clear hTa hTb he het
  go_enter Tryz.func8, Tryz.ntmps8
  go_upto_region 1 with fail
  generalize (w.alloc (.cells cs 29)).alloc (.cells ds 29) = w1 at *
  go_wp2_with fail
  refine (hkn _ B1).mono ?_
  rintro x w2 ⟨rfl, b2⟩
  have B2 := B1.trans (b2.mono B1.size)
  have qa2 := below_heap b2 qa
  have qb2 := below_heap b2 qb
  clear hkn b2 qa qb
  go_upto_region 3 with fail
  go_wp2_with (refine wp_get rfl 29 _ rfl w.heap.size cs 29 rfl qa2 _ Tryz.underlying29 rfl 13 inf29 rowa.1 ?_)
  refine (hca _ B2).mono ?_
  rintro x w3 ⟨r, rfl, HC, b3⟩
  have B3 := B2.trans (b3.mono B2.size)
  have qa3 := below_heap b3 qa2
  have qb3 := below_heap b3 qb2
  clear hca b3 qa2 qb2
  by_cases hr : r ≤ 150
  · have hr' : ¬ (150 : Int) < r := by omega
    have HZa : Hid (sz a ≤ 150) := by have := HC.2.2.1 hr; show _ ≤ _; omega
    clear HC
    have x0 : w3.cell? ⟨w.heap.size + 1, 0, none⟩ = some (.int .i64 b.k) := (cell_at qb3 0).trans (by rw [EB.out]; rfl)
    have x1 : w3.cell? ⟨w.heap.size + 1, 1, none⟩ = some (.int .i64 b.p) := (cell_at qb3 1).trans (by rw [EB.out]; rfl)
    have x2 : w3.cell? ⟨w.heap.size + 1, 2, none⟩ = some (.bool b.o) := (cell_at qb3 2).trans (by rw [EB.out]; rfl)
    have x3 : w3.cell? ⟨w.heap.size + 1, 3, none⟩ = some (.int .i64 b.v) := (cell_at qb3 3).trans (by rw [EB.out]; rfl)
    have x4 : w3.cell? ⟨w.heap.size + 1, 4, none⟩ = some (tx b.s) := (cell_at qb3 4).trans (by rw [EB.out]; rfl)
    have x5 : w3.cell? ⟨w.heap.size + 1, 5, none⟩ = some (.slice am1 b.m.length cm1) := (cell_at qb3 5).trans (by rw [EB.out]; rfl)
    have x6 : w3.cell? ⟨w.heap.size + 1, 6, none⟩ = some (.int .i64 b.r) := (cell_at qb3 6).trans (by rw [EB.out]; rfl)
    have x7 : w3.cell? ⟨w.heap.size + 1, 7, none⟩ = some (.bool b.b1) := (cell_at qb3 7).trans (by rw [EB.out]; rfl)
    have x8 : w3.cell? ⟨w.heap.size + 1, 8, none⟩ = some (.bool b.b2) := (cell_at qb3 8).trans (by rw [EB.out]; rfl)
    have x9 : w3.cell? ⟨w.heap.size + 1, 9, none⟩ = some (.bool b.b3) := (cell_at qb3 9).trans (by rw [EB.out]; rfl)
    have x10 : w3.cell? ⟨w.heap.size + 1, 10, none⟩ = some (.bool b.b4) := (cell_at qb3 10).trans (by rw [EB.out]; rfl)
    have x11 : w3.cell? ⟨w.heap.size + 1, 11, none⟩ = some (.slice an1 b.ns.length cn1) := (cell_at qb3 11).trans (by rw [EB.out]; rfl)
    have x12 : w3.cell? ⟨w.heap.size + 1, 12, none⟩ = some (.slice ao1 b.ks.length cap1) := (cell_at qb3 12).trans (by rw [EB.out]; rfl)
    go_wp2_with fail
    refine (hcb _ B3).mono ?_
    rintro x w4 ⟨s, rfl, HC, b4⟩
    clear x0 x1 x2 x3 x4 x5 x6 x7 x8 x9 x10 x11 x12
    have B4 := B3.trans (b4.mono B3.size)
    have qa4 := below_heap b4 qa3
    have qb4 := below_heap b4 qb3
    clear hcb b4 qa3 qb3
    by_cases hs : s ≤ 150
    · have hs' : ¬ (150 : Int) < s := by omega
      have HZb : Hid (sz b ≤ 150) := by have := HC.2.2.1 hs; show _ ≤ _; omega
      clear HC
      have x0 : w4.cell? ⟨w.heap.size, 0, none⟩ = some (.int .i64 a.k) := (cell_at qa4 0).trans (by rw [EA.out]; rfl)
      have x1 : w4.cell? ⟨w.heap.size, 1, none⟩ = some (.int .i64 a.p) := (cell_at qa4 1).trans (by rw [EA.out]; rfl)
      have x2 : w4.cell? ⟨w.heap.size, 2, none⟩ = some (.bool a.o) := (cell_at qa4 2).trans (by rw [EA.out]; rfl)
      have x3 : w4.cell? ⟨w.heap.size, 3, none⟩ = some (.int .i64 a.v) := (cell_at qa4 3).trans (by rw [EA.out]; rfl)
      have x4 : w4.cell? ⟨w.heap.size, 4, none⟩ = some (tx a.s) := (cell_at qa4 4).trans (by rw [EA.out]; rfl)
      have x5 : w4.cell? ⟨w.heap.size, 5, none⟩ = some (.slice am0 a.m.length cm0) := (cell_at qa4 5).trans (by rw [EA.out]; rfl)
      have x6 : w4.cell? ⟨w.heap.size, 6, none⟩ = some (.int .i64 a.r) := (cell_at qa4 6).trans (by rw [EA.out]; rfl)
      have x7 : w4.cell? ⟨w.heap.size, 7, none⟩ = some (.bool a.b1) := (cell_at qa4 7).trans (by rw [EA.out]; rfl)
      have x8 : w4.cell? ⟨w.heap.size, 8, none⟩ = some (.bool a.b2) := (cell_at qa4 8).trans (by rw [EA.out]; rfl)
      have x9 : w4.cell? ⟨w.heap.size, 9, none⟩ = some (.bool a.b3) := (cell_at qa4 9).trans (by rw [EA.out]; rfl)
      have x10 : w4.cell? ⟨w.heap.size, 10, none⟩ = some (.bool a.b4) := (cell_at qa4 10).trans (by rw [EA.out]; rfl)
      have x11 : w4.cell? ⟨w.heap.size, 11, none⟩ = some (.slice an0 a.ns.length cn0) := (cell_at qa4 11).trans (by rw [EA.out]; rfl)
      have x12 : w4.cell? ⟨w.heap.size, 12, none⟩ = some (.slice ao0 a.ks.length cap0) := (cell_at qa4 12).trans (by rw [EA.out]; rfl)
      cases hqa : isE a with
      | false =>
        simp only [hqa] at hIa
        clear hqa HOa HOb HZa HZb
        go_wp2_with fail
        refine (hIa _ B4).mono ?_
        rintro x w5 ⟨rfl, b5⟩
        go_wp2_with fail
        go_ret
        exact ⟨rfl, B4.trans (b5.mono B4.size)⟩
      | true =>
        simp only [hqa] at hIa
        go_wp2_with fail
        refine (hIa _ B4).mono ?_
        rintro x w5 ⟨rfl, b5⟩
        clear x0 x1 x2 x3 x4 x5 x6 x7 x8 x9 x10 x11 x12
        have B5 := B4.trans (b5.mono B4.size)
        have qa5 := below_heap b5 qa4
        have qb5 := below_heap b5 qb4
        clear hIa b5 qa4 qb4
        have x0 : w5.cell? ⟨w.heap.size + 1, 0, none⟩ = some (.int .i64 b.k) := (cell_at qb5 0).trans (by rw [EB.out]; rfl)
        have x1 : w5.cell? ⟨w.heap.size + 1, 1, none⟩ = some (.int .i64 b.p) := (cell_at qb5 1).trans (by rw [EB.out]; rfl)
        have x2 : w5.cell? ⟨w.heap.size + 1, 2, none⟩ = some (.bool b.o) := (cell_at qb5 2).trans (by rw [EB.out]; rfl)
        have x3 : w5.cell? ⟨w.heap.size + 1, 3, none⟩ = some (.int .i64 b.v) := (cell_at qb5 3).trans (by rw [EB.out]; rfl)
        have x4 : w5.cell? ⟨w.heap.size + 1, 4, none⟩ = some (tx b.s) := (cell_at qb5 4).trans (by rw [EB.out]; rfl)
        have x5 : w5.cell? ⟨w.heap.size + 1, 5, none⟩ = some (.slice am1 b.m.length cm1) := (cell_at qb5 5).trans (by rw [EB.out]; rfl)
        have x6 : w5.cell? ⟨w.heap.size + 1, 6, none⟩ = some (.int .i64 b.r) := (cell_at qb5 6).trans (by rw [EB.out]; rfl)
        have x7 : w5.cell? ⟨w.heap.size + 1, 7, none⟩ = some (.bool b.b1) := (cell_at qb5 7).trans (by rw [EB.out]; rfl)
        have x8 : w5.cell? ⟨w.heap.size + 1, 8, none⟩ = some (.bool b.b2) := (cell_at qb5 8).trans (by rw [EB.out]; rfl)
        have x9 : w5.cell? ⟨w.heap.size + 1, 9, none⟩ = some (.bool b.b3) := (cell_at qb5 9).trans (by rw [EB.out]; rfl)
        have x10 : w5.cell? ⟨w.heap.size + 1, 10, none⟩ = some (.bool b.b4) := (cell_at qb5 10).trans (by rw [EB.out]; rfl)
        have x11 : w5.cell? ⟨w.heap.size + 1, 11, none⟩ = some (.slice an1 b.ns.length cn1) := (cell_at qb5 11).trans (by rw [EB.out]; rfl)
        have x12 : w5.cell? ⟨w.heap.size + 1, 12, none⟩ = some (.slice ao1 b.ks.length cap1) := (cell_at qb5 12).trans (by rw [EB.out]; rfl)
        cases hqb : isE b with
        | false =>
          simp only [hqb] at hIb
          clear hqb HOa HOb HZa HZb
          go_wp2_with fail
          refine (hIb _ B5).mono ?_
          rintro x w6 ⟨rfl, b6⟩
          go_wp2_with fail
          go_ret
          exact ⟨rfl, B5.trans (b6.mono B5.size)⟩
        | true =>
          simp only [hqb] at hIb
          have hoa := HOa.out
          have hob := HOb.out
          rw [show ofE a = tyE a by unfold ofE; rw [if_pos hqa]] at hoa
          rw [show ofE b = tyE b by unfold ofE; rw [if_pos hqb]] at hob
          have hcE : ofE (eBin 7 [62] false false [] a b) = tyE (eBin 7 [62] false false [] a b) := ofE_of (isE_bin 7 [62] a b (by kernel_rfl) (isE_snd hqa) (isE_snd hqb) HZa.out HZb.out) rfl
          have hwr := kdO_of a b [62]
          rw [show cmpB [62] = true by kernel_rfl] at hwr
          have hc := fun W cs' (h : TrP (fun _ : Nat => True) W (eBin 7 [62] false false [] a b) cs') hE => of_any h (Sm_two (big_of (by decide)) hSa hSb) hE
          simp only [hcE] at hc
          have HW : Hid _ := hwr
          clear hcE hwr HZa HZb HOa HOb hqa hqb
          generalize tyE a = O at *
          generalize tyE b = U at *
          generalize tyE (eBin 7 [62] false false [] a b) = C at *
          obtain ⟨o1, o2, o3⟩ := O
          obtain ⟨u1, u2, u3⟩ := U
          obtain ⟨c1, c2, c3⟩ := C
          go_wp2_with fail
          refine (hIb _ B5).mono ?_
          rintro x w6 ⟨rfl, b6⟩
          clear x0 x1 x2 x3 x4 x5 x6 x7 x8 x9 x10 x11 x12
          have B6 := B5.trans (b6.mono B5.size)
          have qa6 := below_heap b6 qa5
          have qb6 := below_heap b6 qb5
          clear hIb b6 qa5 qb5
          go_upto_region 5 with fail
          go_wp2_with (refine wp_get rfl 29 _ rfl w.heap.size cs 29 rfl qa6 _ Tryz.underlying29 rfl 13 inf29 rowa.1 ?_)
          refine (hoa _ B6).mono ?_
          rintro x w7 ⟨rfl, b7⟩
          have B7 := B6.trans (b7.mono B6.size)
          have qa7 := below_heap b7 qa6
          have qb7 := below_heap b7 qb6
          clear b7 qa6 qb6 hoa
          go_upto_region 6 with fail
          go_wp2_with (refine wp_get rfl 29 _ rfl (w.heap.size + 1) ds 29 rfl qb7 _ Tryz.underlying29 rfl 13 inf29 rowb.1 ?_)
          refine (hob _ B7).mono ?_
          rintro x w8 ⟨rfl, b8⟩
          have B8 := B7.trans (b8.mono B7.size)
          have qa8 := below_heap b8 qa7
          have qb8 := below_heap b8 qb7
          clear b8 qa7 qb7 hob
          go_upto_region 7 with fail
          obtain ⟨R, hR⟩ : ∃ R : Act → World → Prop, Hid (R = fun a' w' => ∃ g gk : Nat, ∃ v17 v18 v19 v20 v21 v22 v23 v24 v25 v26 v27 v28 v29 v30 v31 v32 v33 v34 v35 v36 v37 v38 v39 v40 v41 v42 v43 v44 v45 v46 v47 v48 v49 v50 v51 v52 v53 v54 v55 v56 : Value, a' = { tmps := #[.agg cs, .agg ds, .int .u8 n, .pointer (some ⟨w.heap.size, 0, none⟩), .pointer (some ⟨w.heap.size + 1, 0, none⟩), undef, .bool false, iv o1, iv o2, iv o3, iv u1, iv u2, iv u3, .pointer (some ⟨g, 0, none⟩), undef, undef, undef, v17, v18, v19, v20, v21, v22, v23, v24, v25, v26, v27, v28, v29, v30, v31, v32, v33, v34, v35, v36, v37, v38, v39, v40, v41, v42, v43, v44, v45, v46, v47, v48, v49, v50, v51, v52, v53, v54, v55, v56, undef, undef, undef, undef, undef, undef, undef, undef, undef, undef, undef, undef, undef, undef, undef, undef, undef, undef, undef, undef, undef, undef, undef, undef, undef, undef, undef, undef, undef, undef, undef, undef, undef, undef, undef, undef, undef, undef, undef, undef, undef, undef, undef, undef, undef, undef, undef, undef, undef, undef, undef, undef, undef, undef, undef, undef, undef, undef, undef, undef, undef, undef, undef, undef, undef, undef, undef, undef, undef, undef, undef, undef, undef, undef, undef, undef, undef, undef, undef, undef, undef, undef, undef, undef, undef, undef, undef], defers := [] } ∧ w'.heap[g]? = some (.cells (exA 5 7 false 0 [62] nl 0 false false false false nl (.slice (some ⟨gk, 0, none⟩) 2 2)) 29) ∧ w'.heap[gk]? = some (.cells (cs ++ ds) 29) ∧ w8.heap.size ≤ g ∧ w8.heap.size ≤ gk ∧ Below w8.heap.size w8 w') := ⟨_, rfl⟩
          refine region_mid R ?_ ?_
          · have C0 : Below w8.heap.size w8 w8.drew := (Below.refl _ _).drew
            refine wp_region_noPanic ?_
            refine wp_region_held_drew (S := fun W => Below w8.heap.size w8 W) (by kernel_rfl) ?_ (fun _ => ?_)
            · exact C0
            generalize w8.drew = wd at *
            have zC := C0.size
            refine take_at 0 (some 49) (.agg #[tx [43], tx [45], tx [42], tx [47], tx [62], tx [33, 61]]) rfl rfl (by kernel_rfl) (by kernel_rfl) (by kernel_rfl) (fun _ _ _ h => h) (by rfl) (fun W hSw => by go_simp) C0 ?_
            simp only [Act.put, List.setIfInBounds_toArray, List.set_cons_zero, List.set_cons_succ]
            refine take_at 1 (some 50) (.int .u8 n) rfl rfl (by kernel_rfl) (by kernel_rfl) (by kernel_rfl) (fun _ _ _ h => h) (by rfl) (fun W hSw => by go_simp) C0 ?_
            simp only [Act.put, List.setIfInBounds_toArray, List.set_cons_zero, List.set_cons_succ]
            refine take_at 2 (some 51) (.int .u8 4) rfl rfl (by kernel_rfl) (by kernel_rfl) (by kernel_rfl) (fun _ _ _ h => h) (by rfl) (fun W hSw => by go_simp) C0 ?_
            simp only [Act.put, List.setIfInBounds_toArray, List.set_cons_zero, List.set_cons_succ]
            refine take_at 3 (some 52) (tx [62]) rfl rfl (by kernel_rfl) (by kernel_rfl) (by kernel_rfl) (fun _ _ _ h => h) (by rfl) (fun W hSw => by go_simp) C0 ?_
            simp only [Act.put, List.setIfInBounds_toArray, List.set_cons_zero, List.set_cons_succ]
            refine take_at 4 (some 53) (.agg cs) rfl rfl (by kernel_rfl) (by kernel_rfl) (by kernel_rfl) (fun _ _ _ h => h) (by rfl) (fun W hSw => by exact exec_get 29 _ rfl w.heap.size cs 29 rfl W (below_heap hSw qa8) _ Tryz.underlying29 rfl 13 inf29 rowa.1) C0 ?_
            simp only [Act.put, List.setIfInBounds_toArray, List.set_cons_zero, List.set_cons_succ]
            refine take_at 5 (some 54) (.agg ds) rfl rfl (by kernel_rfl) (by kernel_rfl) (by kernel_rfl) (fun _ _ _ h => h) (by rfl) (fun W hSw => by exact exec_get 29 _ rfl (w.heap.size + 1) ds 29 rfl W (below_heap hSw qb8) _ Tryz.underlying29 rfl 13 inf29 rowb.1) C0 ?_
            simp only [Act.put, List.setIfInBounds_toArray, List.set_cons_zero, List.set_cons_succ]
            refine wpAnyH_ready (rs := [6, 8]) (by kernel_rfl) (by simp) ?_
            refine AllReadyH.cons rfl (fun K hK => ?_) (AllReadyH.cons rfl (fun K hK => ?_) AllReadyH.nil)
            · refine step_mk2 _ _ (some 55) rfl rfl (by rfl) cs ds rfl rfl rowa.1 rowb.1 ?_
              intro y1 k1 d1 s1
              have D1 := C0.trans (d1.mono zC)
              clear d1
              refine hK.out _ _ ?_ (fun _ => ?_)
              · exact D1
              clear hK K
              refine take_at 7 (some 56) (.agg (exA 5 7 false 0 [62] nl 0 false false false false nl (.slice (some ⟨wd.heap.size, 0, none⟩) 2 2))) rfl rfl (by kernel_rfl) (by kernel_rfl) (by kernel_rfl) (fun _ _ _ h => h) (by rfl) (fun W hSw => by go_simp) D1 ?_
              simp only [Act.put, List.setIfInBounds_toArray, List.set_cons_zero, List.set_cons_succ]
              refine wpAnyH_ready (rs := [8]) (by kernel_rfl) (by simp) ?_
              refine AllReadyH.cons rfl (fun K hK => ?_) AllReadyH.nil
              go_simp
              have D2 := bal D1 (.cells zE 29)
              have k2 := heap_new y1 (.cells zE 29)
              have k1' := new_heap k1 (.cells zE 29)
              generalize y1.alloc (.cells zE 29) = y2 at *
              refine hK.out _ _ ?_ (fun _ => ?_)
              · exact D2
              clear hK K
              refine wpAnyH_ready (rs := [9]) (by kernel_rfl) (by simp) ?_
              refine AllReadyH.cons rfl (fun K hK => ?_) AllReadyH.nil
              refine step_put 29 _ _ none rfl rfl (by rfl) y1.heap.size (exA 5 7 false 0 [62] nl 0 false false false false nl (.slice (some ⟨wd.heap.size, 0, none⟩) 2 2)) rfl rfl _ 29 k2 13 inf29 rfl ⟨rfl, rfl⟩ ?_
              intro y3 k3 o3' z3
              have k4 := o3'.heap k1' (by simp <;> omega)
              have D3 := ((Off.of D2 []).trans o3' (by simp <;> omega)).below (by simp)
              refine hK.out _ _ ?_ (fun _ => ?_)
              · exact D3
              clear hK K
              refine wpAnyH_done (by kernel_rfl) ?_ _
              refine NoPanic.normal ?_
              show R _ _
              rw [hR.out]
              exact ⟨y1.heap.size, wd.heap.size, _, _, _, _, _, _, _, _, _, _, _, _, _, _, _, _, _, _, _, _, _, _, _, _, _, _, _, _, _, _, _, _, _, _, _, _, _, _, _, _, rfl, k3, k4, by omega, by omega, D3⟩
            · go_simp
              have D1 := bal C0 (.cells zE 29)
              have k1 := heap_new wd (.cells zE 29)
              have s1 := size_le wd (.cells zE 29)
              generalize wd.alloc (.cells zE 29) = y1 at *
              refine hK.out _ _ ?_ (fun _ => ?_)
              · exact D1
              clear hK K
              refine wpAnyH_ready (rs := [6]) (by kernel_rfl) (by simp) ?_
              refine AllReadyH.cons rfl (fun K hK => ?_) AllReadyH.nil
              refine step_mk2 _ _ (some 55) rfl rfl (by rfl) cs ds rfl rfl rowa.1 rowb.1 ?_
              intro y2 k2 d2 s2
              have D2 := D1.trans (d2.mono D1.size)
              have k1' := below_heap d2 k1
              clear d2
              refine hK.out _ _ ?_ (fun _ => ?_)
              · exact D2
              clear hK K
              refine take_at 7 (some 56) (.agg (exA 5 7 false 0 [62] nl 0 false false false false nl (.slice (some ⟨y1.heap.size, 0, none⟩) 2 2))) rfl rfl (by kernel_rfl) (by kernel_rfl) (by kernel_rfl) (fun _ _ _ h => h) (by rfl) (fun W hSw => by go_simp) D2 ?_
              simp only [Act.put, List.setIfInBounds_toArray, List.set_cons_zero, List.set_cons_succ]
              refine wpAnyH_ready (rs := [9]) (by kernel_rfl) (by simp) ?_
              refine AllReadyH.cons rfl (fun K hK => ?_) AllReadyH.nil
              refine step_put 29 _ _ none rfl rfl (by rfl) wd.heap.size (exA 5 7 false 0 [62] nl 0 false false false false nl (.slice (some ⟨y1.heap.size, 0, none⟩) 2 2)) rfl rfl _ 29 k1' 13 inf29 rfl ⟨rfl, rfl⟩ ?_
              intro y3 k3 o3' z3
              have k4 := o3'.heap k2 (by simp <;> omega)
              have D3 := ((Off.of D2 []).trans o3' (by simp <;> omega)).below (by simp)
              refine hK.out _ _ ?_ (fun _ => ?_)
              · exact D3
              clear hK K
              refine wpAnyH_done (by kernel_rfl) ?_ _
              refine NoPanic.normal ?_
              show R _ _
              rw [hR.out]
              exact ⟨wd.heap.size, y1.heap.size, _, _, _, _, _, _, _, _, _, _, _, _, _, _, _, _, _, _, _, _, _, _, _, _, _, _, _, _, _, _, _, _, _, _, _, _, _, _, _, _, rfl, k3, k4, by omega, by omega, D3⟩
          intro a' w9 h
          rw [hR.out] at h
          obtain ⟨g, gk, v17, v18, v19, v20, v21, v22, v23, v24, v25, v26, v27, v28, v29, v30, v31, v32, v33, v34, v35, v36, v37, v38, v39, v40, v41, v42, v43, v44, v45, v46, v47, v48, v49, v50, v51, v52, v53, v54, v55, v56, rfl, Ng, Kg, Lg, Mg, b9⟩ := h
          clear hR R
          have B9 := B8.trans (b9.mono B8.size)
          have qa9 := below_heap b9 qa8
          have qb9 := below_heap b9 qb8
          clear b9 qa8 qb8
          go_upto_region 8 with fail
          go_wp2_with (refine wp_get rfl 29 _ rfl g _ 29 rfl Ng _ Tryz.underlying29 rfl 13 inf29 rfl ?_)
          refine (hc _ _ (node2 (HA.out.later B9) (HB.out.later B9) Kg) (HT.out.later B9)).mono ?_
          rintro x w10 ⟨rfl, b10⟩
          have B10 := B9.trans (b10.mono B9.size)
          have y1 : w10.cell? ⟨w.heap.size, 1, none⟩ = some (.int .i64 a.p) := (cell_at (below_heap b10 qa9) 1).trans (by rw [EA.out]; rfl)
          have z1 : w10.cell? ⟨w.heap.size + 1, 1, none⟩ = some (.int .i64 b.p) := (cell_at (below_heap b10 qb9) 1).trans (by rw [EB.out]; rfl)
          clear hc qa9 qb9 Ng Kg b10
          go_upto_region 9 with fail
          have hw := HW.out
          clear HW
          unfold kdO at hw
          rcases hw with ⟨h3, hz⟩ | ⟨h3, h4, hz⟩ | ⟨h3, h4, hw⟩
          · have t1 : (o3 != 0) = true := by rw [bne_iff_ne]; exact h3
            have t2 : (o3 == 0) = false := beq_eq_false_iff_ne.2 h3
            clear h3
            injection hz with c1' c2'
            injection c2' with c2' c3'
            subst c1' c2' c3'
            go_wp2_with fail
            go_ret
            exact ⟨by simp, B10⟩
          · subst h3
            have t1 : (u3 != 0) = true := by rw [bne_iff_ne]; exact h4
            have t2 : (u3 == 0) = false := beq_eq_false_iff_ne.2 h4
            clear h4
            injection hz with c1' c2'
            injection c2' with c2' c3'
            subst c1' c2' c3'
            go_wp2_with fail
            go_ret
            exact ⟨by simp, B10⟩
          · subst h3 h4
            rcases hw with ⟨e1, hz⟩ | ⟨e1, e2, hz⟩ | ⟨e1, e2, hz⟩ | ⟨e1, e2, hz⟩ | ⟨e1, e2, hz⟩
            · subst e1
              injection hz with c1' c2'
              injection c2' with c2' c3'
              subst c1' c2' c3'
              go_wp2_with fail
              go_ret
              exact ⟨by simp, B10⟩
            · subst e2
              rcases e1 with rfl | rfl
              · injection hz with c1' c2'
                injection c2' with c2' c3'
                subst c1' c2' c3'
                go_wp2_with fail
                go_ret
                exact ⟨by simp, B10⟩
              · injection hz with c1' c2'
                injection c2' with c2' c3'
                subst c1' c2' c3'
                go_wp2_with fail
                go_ret
                exact ⟨by simp, B10⟩
            · subst e1 e2
              have hz : (c1, c2, c3) = ((0, 7, 90) : Ty) := hz
              injection hz with c1' c2'
              injection c2' with c2' c3'
              subst c1' c2' c3'
              go_wp2_with fail
              go_ret
              exact ⟨by simp, B10⟩
            · subst e1 e2
              injection hz with c1' c2'
              injection c2' with c2' c3'
              subst c1' c2' c3'
              go_wp2_with fail
              go_ret
              exact ⟨by simp, B10⟩
            · subst e1
              rcases e2 with rfl | rfl
              · injection hz with c1' c2'
                injection c2' with c2' c3'
                subst c1' c2' c3'
                go_wp2_with fail
                go_ret
                exact ⟨by simp, B10⟩
              · injection hz with c1' c2'
                injection c2' with c2' c3'
                subst c1' c2' c3'
                go_wp2_with fail
                go_ret
                exact ⟨by simp, B10⟩
    · have hs' : (150 : Int) < s := by omega
      go_wp2_with fail
      go_ret
      exact ⟨rfl, B4⟩
  · have hr' : (150 : Int) < r := by omega
    go_wp2_with fail
    go_ret
    exact ⟨rfl, B3⟩
end Go.Proofs.YteankdaegdhfiaaGreatDoor
/- The law TypesKids, a sixth of it. -/
namespace Go.Proofs.YteankdaegdhfiaaGreatDoor
open Go.RowKit

set_option maxHeartbeats 8000000 in
set_option maxRecDepth 20000 in
theorem kids5 (n : Int) (hh : n.tmod 6 = (5 : Int)) (a b : Ex) (cs ds : Array Value) (w : World) (hTa : TrP (fun _ : Nat => True) w a cs) (hTb : TrP (fun _ : Nat => True) w b ds) (hSa : Sm a) (hSb : Sm b) (he : Ev w) (het : Et w) : Calls Tryz.prog 8 #[.agg cs, .agg ds, .int .u8 n] w fun x w' => x = .returned (.bool true) ∧ Below w.heap.size w w' := by
  have HA : Hid _ := hTa
  have HB : Hid _ := hTb
  have rowa := hTa.row
  have rowb := hTb.row
  obtain ⟨vm0, vn0, ao0, cap0, eca, sm0, sn0, _, _⟩ := hTa.parts
  obtain ⟨am0, cm0, rfl, _⟩ := sm0
  obtain ⟨an0, cn0, rfl, _⟩ := sn0
  obtain ⟨vm1, vn1, ao1, cap1, ecb, sm1, sn1, _, _⟩ := hTb.parts
  obtain ⟨am1, cm1, rfl, _⟩ := sm1
  obtain ⟨an1, cn1, rfl, _⟩ := sn1
  have EA : Hid (cs = exA a.k a.p a.o a.v a.s (.slice am0 a.m.length cm0) a.r a.b1 a.b2 a.b3 a.b4 (.slice an0 a.ns.length cn0) (.slice ao0 a.ks.length cap0)) := eca
  have EB : Hid (ds = exA b.k b.p b.o b.v b.s (.slice am1 b.m.length cm1) b.r b.b1 b.b2 b.b3 b.b4 (.slice an1 b.ns.length cn1) (.slice ao1 b.ks.length cap1)) := ecb
  clear eca ecb
  have B1 := bal (bal (Below.refl w.heap.size w) (.cells cs 29)) (.cells ds 29)
  have qa := new_heap (heap_new w (.cells cs 29)) (.cells ds 29)
  have qb : ((w.alloc (.cells cs 29)).alloc (.cells ds 29)).heap[w.heap.size + 1]? = some (.cells ds 29) := by
    have h := heap_new (w.alloc (.cells cs 29)) (.cells ds 29)
    rw [size_new] at h
    exact h
  have HE : Hid (Ev w) := he
  have HT : Hid (Et w) := het
  have hkn := fun W (hW : Below w.heap.size w W) => tknown_any W (HE.out.later hW) (HT.out.later hW)
  have hca := fun W (hW : Below w.heap.size w W) => rcount_ok a hSa W cs 150 (HA.out.later hW) (by omega) (by omega)
  have hcb : ∀ W, Below w.heap.size w W → Calls Tryz.prog 29 #[.agg (exA b.k b.p b.o b.v b.s (.slice am1 b.m.length cm1) b.r b.b1 b.b2 b.b3 b.b4 (.slice an1 b.ns.length cn1) (.slice ao1 b.ks.length cap1)), .int .i64 150] W fun x w' => ∃ r, x = .returned (.int .i64 r) ∧ Cnt b 150 r ∧ Below W.heap.size W w' := fun W hW => by rw [← EB.out]; exact rcount_ok b hSb W ds 150 (HB.out.later hW) (by omega) (by omega)
  have hIa : ∀ W, Below w.heap.size w W → Calls Tryz.prog 19 #[.agg (exA a.k a.p a.o a.v a.s (.slice am0 a.m.length cm0) a.r a.b1 a.b2 a.b3 a.b4 (.slice an0 a.ns.length cn0) (.slice ao0 a.ks.length cap0))] W fun x w' => x = .returned (.bool (isE a)) ∧ Below W.heap.size W w' := fun W hW => by rw [← EA.out]; exact isE_any (HA.out.later hW) hSa
  have hIb : ∀ W, Below w.heap.size w W → Calls Tryz.prog 19 #[.agg (exA b.k b.p b.o b.v b.s (.slice am1 b.m.length cm1) b.r b.b1 b.b2 b.b3 b.b4 (.slice an1 b.ns.length cn1) (.slice ao1 b.ks.length cap1))] W fun x w' => x = .returned (.bool (isE b)) ∧ Below W.heap.size W w' := fun W hW => by rw [← EB.out]; exact isE_any (HB.out.later hW) hSb
  have hix := ixk5
  have HOa : Hid (∀ W, Below w.heap.size w W → Calls Tryz.prog 30 #[.agg cs] W fun x w' => x = .returned (tyV (ofE a)) ∧ Below W.heap.size W w') := fun W hW => of_any (HA.out.later hW) hSa (HT.out.later hW)
  have HOb : Hid (∀ W, Below w.heap.size w W → Calls Tryz.prog 30 #[.agg ds] W fun x w' => x = .returned (tyV (ofE b)) ∧ Below W.heap.size W w') := fun W hW => of_any (HB.out.later hW) hSb (HT.out.later hW)
  clear hTa hTb he het
  go_enter Tryz.func8, Tryz.ntmps8
  go_upto_region 1 with fail
  generalize (w.alloc (.cells cs 29)).alloc (.cells ds 29) = w1 at *
  go_wp2_with fail
  refine (hkn _ B1).mono ?_
  rintro x w2 ⟨rfl, b2⟩
  have B2 := B1.trans (b2.mono B1.size)
  have qa2 := below_heap b2 qa
  have qb2 := below_heap b2 qb
  clear hkn b2 qa qb
  go_upto_region 3 with fail
  go_wp2_with (refine wp_get rfl 29 _ rfl w.heap.size cs 29 rfl qa2 _ Tryz.underlying29 rfl 13 inf29 rowa.1 ?_)
  refine (hca _ B2).mono ?_
  rintro x w3 ⟨r, rfl, HC, b3⟩
  have B3 := B2.trans (b3.mono B2.size)
  have qa3 := below_heap b3 qa2
  have qb3 := below_heap b3 qb2
  clear hca b3 qa2 qb2
  by_cases hr : r ≤ 150
  · have hr' : ¬ (150 : Int) < r := by omega
    have HZa : Hid (sz a ≤ 150) := by have := HC.2.2.1 hr; show _ ≤ _; omega
    clear HC
    have x0 : w3.cell? ⟨w.heap.size + 1, 0, none⟩ = some (.int .i64 b.k) := (cell_at qb3 0).trans (by rw [EB.out]; rfl)
    have x1 : w3.cell? ⟨w.heap.size + 1, 1, none⟩ = some (.int .i64 b.p) := (cell_at qb3 1).trans (by rw [EB.out]; rfl)
    have x2 : w3.cell? ⟨w.heap.size + 1, 2, none⟩ = some (.bool b.o) := (cell_at qb3 2).trans (by rw [EB.out]; rfl)
    have x3 : w3.cell? ⟨w.heap.size + 1, 3, none⟩ = some (.int .i64 b.v) := (cell_at qb3 3).trans (by rw [EB.out]; rfl)
    have x4 : w3.cell? ⟨w.heap.size + 1, 4, none⟩ = some (tx b.s) := (cell_at qb3 4).trans (by rw [EB.out]; rfl)
    have x5 : w3.cell? ⟨w.heap.size + 1, 5, none⟩ = some (.slice am1 b.m.length cm1) := (cell_at qb3 5).trans (by rw [EB.out]; rfl)
    have x6 : w3.cell? ⟨w.heap.size + 1, 6, none⟩ = some (.int .i64 b.r) := (cell_at qb3 6).trans (by rw [EB.out]; rfl)
    have x7 : w3.cell? ⟨w.heap.size + 1, 7, none⟩ = some (.bool b.b1) := (cell_at qb3 7).trans (by rw [EB.out]; rfl)
    have x8 : w3.cell? ⟨w.heap.size + 1, 8, none⟩ = some (.bool b.b2) := (cell_at qb3 8).trans (by rw [EB.out]; rfl)
    have x9 : w3.cell? ⟨w.heap.size + 1, 9, none⟩ = some (.bool b.b3) := (cell_at qb3 9).trans (by rw [EB.out]; rfl)
    have x10 : w3.cell? ⟨w.heap.size + 1, 10, none⟩ = some (.bool b.b4) := (cell_at qb3 10).trans (by rw [EB.out]; rfl)
    have x11 : w3.cell? ⟨w.heap.size + 1, 11, none⟩ = some (.slice an1 b.ns.length cn1) := (cell_at qb3 11).trans (by rw [EB.out]; rfl)
    have x12 : w3.cell? ⟨w.heap.size + 1, 12, none⟩ = some (.slice ao1 b.ks.length cap1) := (cell_at qb3 12).trans (by rw [EB.out]; rfl)
    go_wp2_with fail
    refine (hcb _ B3).mono ?_
    rintro x w4 ⟨s, rfl, HC, b4⟩
    clear x0 x1 x2 x3 x4 x5 x6 x7 x8 x9 x10 x11 x12
    have B4 := B3.trans (b4.mono B3.size)
    have qa4 := below_heap b4 qa3
    have qb4 := below_heap b4 qb3
    clear hcb b4 qa3 qb3
    by_cases hs : s ≤ 150
    · have hs' : ¬ (150 : Int) < s := by omega
      have HZb : Hid (sz b ≤ 150) := by have := HC.2.2.1 hs; show _ ≤ _; omega
      clear HC
      have x0 : w4.cell? ⟨w.heap.size, 0, none⟩ = some (.int .i64 a.k) := (cell_at qa4 0).trans (by rw [EA.out]; rfl)
      have x1 : w4.cell? ⟨w.heap.size, 1, none⟩ = some (.int .i64 a.p) := (cell_at qa4 1).trans (by rw [EA.out]; rfl)
      have x2 : w4.cell? ⟨w.heap.size, 2, none⟩ = some (.bool a.o) := (cell_at qa4 2).trans (by rw [EA.out]; rfl)
      have x3 : w4.cell? ⟨w.heap.size, 3, none⟩ = some (.int .i64 a.v) := (cell_at qa4 3).trans (by rw [EA.out]; rfl)
      have x4 : w4.cell? ⟨w.heap.size, 4, none⟩ = some (tx a.s) := (cell_at qa4 4).trans (by rw [EA.out]; rfl)
      have x5 : w4.cell? ⟨w.heap.size, 5, none⟩ = some (.slice am0 a.m.length cm0) := (cell_at qa4 5).trans (by rw [EA.out]; rfl)
      have x6 : w4.cell? ⟨w.heap.size, 6, none⟩ = some (.int .i64 a.r) := (cell_at qa4 6).trans (by rw [EA.out]; rfl)
      have x7 : w4.cell? ⟨w.heap.size, 7, none⟩ = some (.bool a.b1) := (cell_at qa4 7).trans (by rw [EA.out]; rfl)
      have x8 : w4.cell? ⟨w.heap.size, 8, none⟩ = some (.bool a.b2) := (cell_at qa4 8).trans (by rw [EA.out]; rfl)
      have x9 : w4.cell? ⟨w.heap.size, 9, none⟩ = some (.bool a.b3) := (cell_at qa4 9).trans (by rw [EA.out]; rfl)
      have x10 : w4.cell? ⟨w.heap.size, 10, none⟩ = some (.bool a.b4) := (cell_at qa4 10).trans (by rw [EA.out]; rfl)
      have x11 : w4.cell? ⟨w.heap.size, 11, none⟩ = some (.slice an0 a.ns.length cn0) := (cell_at qa4 11).trans (by rw [EA.out]; rfl)
      have x12 : w4.cell? ⟨w.heap.size, 12, none⟩ = some (.slice ao0 a.ks.length cap0) := (cell_at qa4 12).trans (by rw [EA.out]; rfl)
      cases hqa : isE a with
      | false =>
        simp only [hqa] at hIa
        clear hqa HOa HOb HZa HZb
        go_wp2_with fail
        refine (hIa _ B4).mono ?_
        rintro x w5 ⟨rfl, b5⟩
        go_wp2_with fail
        go_ret
        exact ⟨rfl, B4.trans (b5.mono B4.size)⟩
      | true =>
        simp only [hqa] at hIa
        go_wp2_with fail
        refine (hIa _ B4).mono ?_
        rintro x w5 ⟨rfl, b5⟩
        clear x0 x1 x2 x3 x4 x5 x6 x7 x8 x9 x10 x11 x12
        have B5 := B4.trans (b5.mono B4.size)
        have qa5 := below_heap b5 qa4
        have qb5 := below_heap b5 qb4
        clear hIa b5 qa4 qb4
        have x0 : w5.cell? ⟨w.heap.size + 1, 0, none⟩ = some (.int .i64 b.k) := (cell_at qb5 0).trans (by rw [EB.out]; rfl)
        have x1 : w5.cell? ⟨w.heap.size + 1, 1, none⟩ = some (.int .i64 b.p) := (cell_at qb5 1).trans (by rw [EB.out]; rfl)
        have x2 : w5.cell? ⟨w.heap.size + 1, 2, none⟩ = some (.bool b.o) := (cell_at qb5 2).trans (by rw [EB.out]; rfl)
        have x3 : w5.cell? ⟨w.heap.size + 1, 3, none⟩ = some (.int .i64 b.v) := (cell_at qb5 3).trans (by rw [EB.out]; rfl)
        have x4 : w5.cell? ⟨w.heap.size + 1, 4, none⟩ = some (tx b.s) := (cell_at qb5 4).trans (by rw [EB.out]; rfl)
        have x5 : w5.cell? ⟨w.heap.size + 1, 5, none⟩ = some (.slice am1 b.m.length cm1) := (cell_at qb5 5).trans (by rw [EB.out]; rfl)
        have x6 : w5.cell? ⟨w.heap.size + 1, 6, none⟩ = some (.int .i64 b.r) := (cell_at qb5 6).trans (by rw [EB.out]; rfl)
        have x7 : w5.cell? ⟨w.heap.size + 1, 7, none⟩ = some (.bool b.b1) := (cell_at qb5 7).trans (by rw [EB.out]; rfl)
        have x8 : w5.cell? ⟨w.heap.size + 1, 8, none⟩ = some (.bool b.b2) := (cell_at qb5 8).trans (by rw [EB.out]; rfl)
        have x9 : w5.cell? ⟨w.heap.size + 1, 9, none⟩ = some (.bool b.b3) := (cell_at qb5 9).trans (by rw [EB.out]; rfl)
        have x10 : w5.cell? ⟨w.heap.size + 1, 10, none⟩ = some (.bool b.b4) := (cell_at qb5 10).trans (by rw [EB.out]; rfl)
        have x11 : w5.cell? ⟨w.heap.size + 1, 11, none⟩ = some (.slice an1 b.ns.length cn1) := (cell_at qb5 11).trans (by rw [EB.out]; rfl)
        have x12 : w5.cell? ⟨w.heap.size + 1, 12, none⟩ = some (.slice ao1 b.ks.length cap1) := (cell_at qb5 12).trans (by rw [EB.out]; rfl)
        cases hqb : isE b with
        | false =>
          simp only [hqb] at hIb
          clear hqb HOa HOb HZa HZb
          go_wp2_with fail
          refine (hIb _ B5).mono ?_
          rintro x w6 ⟨rfl, b6⟩
          go_wp2_with fail
          go_ret
          exact ⟨rfl, B5.trans (b6.mono B5.size)⟩
        | true =>
          simp only [hqb] at hIb
          have hoa := HOa.out
          have hob := HOb.out
          rw [show ofE a = tyE a by unfold ofE; rw [if_pos hqa]] at hoa
          rw [show ofE b = tyE b by unfold ofE; rw [if_pos hqb]] at hob
          have hcE : ofE (eBin 7 [33, 61] false false [] a b) = tyE (eBin 7 [33, 61] false false [] a b) := ofE_of (isE_bin 7 [33, 61] a b (by kernel_rfl) (isE_snd hqa) (isE_snd hqb) HZa.out HZb.out) rfl
          have hwr := kdO_of a b [33, 61]
          rw [show cmpB [33, 61] = true by kernel_rfl] at hwr
          have hc := fun W cs' (h : TrP (fun _ : Nat => True) W (eBin 7 [33, 61] false false [] a b) cs') hE => of_any h (Sm_two (big_of (by decide)) hSa hSb) hE
          simp only [hcE] at hc
          have HW : Hid _ := hwr
          clear hcE hwr HZa HZb HOa HOb hqa hqb
          generalize tyE a = O at *
          generalize tyE b = U at *
          generalize tyE (eBin 7 [33, 61] false false [] a b) = C at *
          obtain ⟨o1, o2, o3⟩ := O
          obtain ⟨u1, u2, u3⟩ := U
          obtain ⟨c1, c2, c3⟩ := C
          go_wp2_with fail
          refine (hIb _ B5).mono ?_
          rintro x w6 ⟨rfl, b6⟩
          clear x0 x1 x2 x3 x4 x5 x6 x7 x8 x9 x10 x11 x12
          have B6 := B5.trans (b6.mono B5.size)
          have qa6 := below_heap b6 qa5
          have qb6 := below_heap b6 qb5
          clear hIb b6 qa5 qb5
          go_upto_region 5 with fail
          go_wp2_with (refine wp_get rfl 29 _ rfl w.heap.size cs 29 rfl qa6 _ Tryz.underlying29 rfl 13 inf29 rowa.1 ?_)
          refine (hoa _ B6).mono ?_
          rintro x w7 ⟨rfl, b7⟩
          have B7 := B6.trans (b7.mono B6.size)
          have qa7 := below_heap b7 qa6
          have qb7 := below_heap b7 qb6
          clear b7 qa6 qb6 hoa
          go_upto_region 6 with fail
          go_wp2_with (refine wp_get rfl 29 _ rfl (w.heap.size + 1) ds 29 rfl qb7 _ Tryz.underlying29 rfl 13 inf29 rowb.1 ?_)
          refine (hob _ B7).mono ?_
          rintro x w8 ⟨rfl, b8⟩
          have B8 := B7.trans (b8.mono B7.size)
          have qa8 := below_heap b8 qa7
          have qb8 := below_heap b8 qb7
          clear b8 qa7 qb7 hob
          go_upto_region 7 with fail
          obtain ⟨R, hR⟩ : ∃ R : Act → World → Prop, Hid (R = fun a' w' => ∃ g gk : Nat, ∃ v17 v18 v19 v20 v21 v22 v23 v24 v25 v26 v27 v28 v29 v30 v31 v32 v33 v34 v35 v36 v37 v38 v39 v40 v41 v42 v43 v44 v45 v46 v47 v48 v49 v50 v51 v52 v53 v54 v55 v56 : Value, a' = { tmps := #[.agg cs, .agg ds, .int .u8 n, .pointer (some ⟨w.heap.size, 0, none⟩), .pointer (some ⟨w.heap.size + 1, 0, none⟩), undef, .bool false, iv o1, iv o2, iv o3, iv u1, iv u2, iv u3, .pointer (some ⟨g, 0, none⟩), undef, undef, undef, v17, v18, v19, v20, v21, v22, v23, v24, v25, v26, v27, v28, v29, v30, v31, v32, v33, v34, v35, v36, v37, v38, v39, v40, v41, v42, v43, v44, v45, v46, v47, v48, v49, v50, v51, v52, v53, v54, v55, v56, undef, undef, undef, undef, undef, undef, undef, undef, undef, undef, undef, undef, undef, undef, undef, undef, undef, undef, undef, undef, undef, undef, undef, undef, undef, undef, undef, undef, undef, undef, undef, undef, undef, undef, undef, undef, undef, undef, undef, undef, undef, undef, undef, undef, undef, undef, undef, undef, undef, undef, undef, undef, undef, undef, undef, undef, undef, undef, undef, undef, undef, undef, undef, undef, undef, undef, undef, undef, undef, undef, undef, undef, undef, undef, undef, undef, undef, undef, undef, undef, undef, undef, undef, undef, undef, undef, undef], defers := [] } ∧ w'.heap[g]? = some (.cells (exA 5 7 false 0 [33, 61] nl 0 false false false false nl (.slice (some ⟨gk, 0, none⟩) 2 2)) 29) ∧ w'.heap[gk]? = some (.cells (cs ++ ds) 29) ∧ w8.heap.size ≤ g ∧ w8.heap.size ≤ gk ∧ Below w8.heap.size w8 w') := ⟨_, rfl⟩
          refine region_mid R ?_ ?_
          · have C0 : Below w8.heap.size w8 w8.drew := (Below.refl _ _).drew
            refine wp_region_noPanic ?_
            refine wp_region_held_drew (S := fun W => Below w8.heap.size w8 W) (by kernel_rfl) ?_ (fun _ => ?_)
            · exact C0
            generalize w8.drew = wd at *
            have zC := C0.size
            refine take_at 0 (some 49) (.agg #[tx [43], tx [45], tx [42], tx [47], tx [62], tx [33, 61]]) rfl rfl (by kernel_rfl) (by kernel_rfl) (by kernel_rfl) (fun _ _ _ h => h) (by rfl) (fun W hSw => by go_simp) C0 ?_
            simp only [Act.put, List.setIfInBounds_toArray, List.set_cons_zero, List.set_cons_succ]
            refine take_at 1 (some 50) (.int .u8 n) rfl rfl (by kernel_rfl) (by kernel_rfl) (by kernel_rfl) (fun _ _ _ h => h) (by rfl) (fun W hSw => by go_simp) C0 ?_
            simp only [Act.put, List.setIfInBounds_toArray, List.set_cons_zero, List.set_cons_succ]
            refine take_at 2 (some 51) (.int .u8 5) rfl rfl (by kernel_rfl) (by kernel_rfl) (by kernel_rfl) (fun _ _ _ h => h) (by rfl) (fun W hSw => by go_simp) C0 ?_
            simp only [Act.put, List.setIfInBounds_toArray, List.set_cons_zero, List.set_cons_succ]
            refine take_at 3 (some 52) (tx [33, 61]) rfl rfl (by kernel_rfl) (by kernel_rfl) (by kernel_rfl) (fun _ _ _ h => h) (by rfl) (fun W hSw => by go_simp) C0 ?_
            simp only [Act.put, List.setIfInBounds_toArray, List.set_cons_zero, List.set_cons_succ]
            refine take_at 4 (some 53) (.agg cs) rfl rfl (by kernel_rfl) (by kernel_rfl) (by kernel_rfl) (fun _ _ _ h => h) (by rfl) (fun W hSw => by exact exec_get 29 _ rfl w.heap.size cs 29 rfl W (below_heap hSw qa8) _ Tryz.underlying29 rfl 13 inf29 rowa.1) C0 ?_
            simp only [Act.put, List.setIfInBounds_toArray, List.set_cons_zero, List.set_cons_succ]
            refine take_at 5 (some 54) (.agg ds) rfl rfl (by kernel_rfl) (by kernel_rfl) (by kernel_rfl) (fun _ _ _ h => h) (by rfl) (fun W hSw => by exact exec_get 29 _ rfl (w.heap.size + 1) ds 29 rfl W (below_heap hSw qb8) _ Tryz.underlying29 rfl 13 inf29 rowb.1) C0 ?_
            simp only [Act.put, List.setIfInBounds_toArray, List.set_cons_zero, List.set_cons_succ]
            refine wpAnyH_ready (rs := [6, 8]) (by kernel_rfl) (by simp) ?_
            refine AllReadyH.cons rfl (fun K hK => ?_) (AllReadyH.cons rfl (fun K hK => ?_) AllReadyH.nil)
            · refine step_mk2 _ _ (some 55) rfl rfl (by rfl) cs ds rfl rfl rowa.1 rowb.1 ?_
              intro y1 k1 d1 s1
              have D1 := C0.trans (d1.mono zC)
              clear d1
              refine hK.out _ _ ?_ (fun _ => ?_)
              · exact D1
              clear hK K
              refine take_at 7 (some 56) (.agg (exA 5 7 false 0 [33, 61] nl 0 false false false false nl (.slice (some ⟨wd.heap.size, 0, none⟩) 2 2))) rfl rfl (by kernel_rfl) (by kernel_rfl) (by kernel_rfl) (fun _ _ _ h => h) (by rfl) (fun W hSw => by go_simp) D1 ?_
              simp only [Act.put, List.setIfInBounds_toArray, List.set_cons_zero, List.set_cons_succ]
              refine wpAnyH_ready (rs := [8]) (by kernel_rfl) (by simp) ?_
              refine AllReadyH.cons rfl (fun K hK => ?_) AllReadyH.nil
              go_simp
              have D2 := bal D1 (.cells zE 29)
              have k2 := heap_new y1 (.cells zE 29)
              have k1' := new_heap k1 (.cells zE 29)
              generalize y1.alloc (.cells zE 29) = y2 at *
              refine hK.out _ _ ?_ (fun _ => ?_)
              · exact D2
              clear hK K
              refine wpAnyH_ready (rs := [9]) (by kernel_rfl) (by simp) ?_
              refine AllReadyH.cons rfl (fun K hK => ?_) AllReadyH.nil
              refine step_put 29 _ _ none rfl rfl (by rfl) y1.heap.size (exA 5 7 false 0 [33, 61] nl 0 false false false false nl (.slice (some ⟨wd.heap.size, 0, none⟩) 2 2)) rfl rfl _ 29 k2 13 inf29 rfl ⟨rfl, rfl⟩ ?_
              intro y3 k3 o3' z3
              have k4 := o3'.heap k1' (by simp <;> omega)
              have D3 := ((Off.of D2 []).trans o3' (by simp <;> omega)).below (by simp)
              refine hK.out _ _ ?_ (fun _ => ?_)
              · exact D3
              clear hK K
              refine wpAnyH_done (by kernel_rfl) ?_ _
              refine NoPanic.normal ?_
              show R _ _
              rw [hR.out]
              exact ⟨y1.heap.size, wd.heap.size, _, _, _, _, _, _, _, _, _, _, _, _, _, _, _, _, _, _, _, _, _, _, _, _, _, _, _, _, _, _, _, _, _, _, _, _, _, _, _, _, rfl, k3, k4, by omega, by omega, D3⟩
            · go_simp
              have D1 := bal C0 (.cells zE 29)
              have k1 := heap_new wd (.cells zE 29)
              have s1 := size_le wd (.cells zE 29)
              generalize wd.alloc (.cells zE 29) = y1 at *
              refine hK.out _ _ ?_ (fun _ => ?_)
              · exact D1
              clear hK K
              refine wpAnyH_ready (rs := [6]) (by kernel_rfl) (by simp) ?_
              refine AllReadyH.cons rfl (fun K hK => ?_) AllReadyH.nil
              refine step_mk2 _ _ (some 55) rfl rfl (by rfl) cs ds rfl rfl rowa.1 rowb.1 ?_
              intro y2 k2 d2 s2
              have D2 := D1.trans (d2.mono D1.size)
              have k1' := below_heap d2 k1
              clear d2
              refine hK.out _ _ ?_ (fun _ => ?_)
              · exact D2
              clear hK K
              refine take_at 7 (some 56) (.agg (exA 5 7 false 0 [33, 61] nl 0 false false false false nl (.slice (some ⟨y1.heap.size, 0, none⟩) 2 2))) rfl rfl (by kernel_rfl) (by kernel_rfl) (by kernel_rfl) (fun _ _ _ h => h) (by rfl) (fun W hSw => by go_simp) D2 ?_
              simp only [Act.put, List.setIfInBounds_toArray, List.set_cons_zero, List.set_cons_succ]
              refine wpAnyH_ready (rs := [9]) (by kernel_rfl) (by simp) ?_
              refine AllReadyH.cons rfl (fun K hK => ?_) AllReadyH.nil
              refine step_put 29 _ _ none rfl rfl (by rfl) wd.heap.size (exA 5 7 false 0 [33, 61] nl 0 false false false false nl (.slice (some ⟨y1.heap.size, 0, none⟩) 2 2)) rfl rfl _ 29 k1' 13 inf29 rfl ⟨rfl, rfl⟩ ?_
              intro y3 k3 o3' z3
              have k4 := o3'.heap k2 (by simp <;> omega)
              have D3 := ((Off.of D2 []).trans o3' (by simp <;> omega)).below (by simp)
              refine hK.out _ _ ?_ (fun _ => ?_)
              · exact D3
              clear hK K
              refine wpAnyH_done (by kernel_rfl) ?_ _
              refine NoPanic.normal ?_
              show R _ _
              rw [hR.out]
              exact ⟨wd.heap.size, y1.heap.size, _, _, _, _, _, _, _, _, _, _, _, _, _, _, _, _, _, _, _, _, _, _, _, _, _, _, _, _, _, _, _, _, _, _, _, _, _, _, _, _, rfl, k3, k4, by omega, by omega, D3⟩
          intro a' w9 h
          rw [hR.out] at h
          obtain ⟨g, gk, v17, v18, v19, v20, v21, v22, v23, v24, v25, v26, v27, v28, v29, v30, v31, v32, v33, v34, v35, v36, v37, v38, v39, v40, v41, v42, v43, v44, v45, v46, v47, v48, v49, v50, v51, v52, v53, v54, v55, v56, rfl, Ng, Kg, Lg, Mg, b9⟩ := h
          clear hR R
          have B9 := B8.trans (b9.mono B8.size)
          have qa9 := below_heap b9 qa8
          have qb9 := below_heap b9 qb8
          clear b9 qa8 qb8
          go_upto_region 8 with fail
          go_wp2_with (refine wp_get rfl 29 _ rfl g _ 29 rfl Ng _ Tryz.underlying29 rfl 13 inf29 rfl ?_)
          refine (hc _ _ (node2 (HA.out.later B9) (HB.out.later B9) Kg) (HT.out.later B9)).mono ?_
          rintro x w10 ⟨rfl, b10⟩
          have B10 := B9.trans (b10.mono B9.size)
          have y1 : w10.cell? ⟨w.heap.size, 1, none⟩ = some (.int .i64 a.p) := (cell_at (below_heap b10 qa9) 1).trans (by rw [EA.out]; rfl)
          have z1 : w10.cell? ⟨w.heap.size + 1, 1, none⟩ = some (.int .i64 b.p) := (cell_at (below_heap b10 qb9) 1).trans (by rw [EB.out]; rfl)
          clear hc qa9 qb9 Ng Kg b10
          go_upto_region 9 with fail
          have hw := HW.out
          clear HW
          unfold kdO at hw
          rcases hw with ⟨h3, hz⟩ | ⟨h3, h4, hz⟩ | ⟨h3, h4, hw⟩
          · have t1 : (o3 != 0) = true := by rw [bne_iff_ne]; exact h3
            have t2 : (o3 == 0) = false := beq_eq_false_iff_ne.2 h3
            clear h3
            injection hz with c1' c2'
            injection c2' with c2' c3'
            subst c1' c2' c3'
            go_wp2_with fail
            go_ret
            exact ⟨by simp, B10⟩
          · subst h3
            have t1 : (u3 != 0) = true := by rw [bne_iff_ne]; exact h4
            have t2 : (u3 == 0) = false := beq_eq_false_iff_ne.2 h4
            clear h4
            injection hz with c1' c2'
            injection c2' with c2' c3'
            subst c1' c2' c3'
            go_wp2_with fail
            go_ret
            exact ⟨by simp, B10⟩
          · subst h3 h4
            rcases hw with ⟨e1, hz⟩ | ⟨e1, e2, hz⟩ | ⟨e1, e2, hz⟩ | ⟨e1, e2, hz⟩ | ⟨e1, e2, hz⟩
            · subst e1
              injection hz with c1' c2'
              injection c2' with c2' c3'
              subst c1' c2' c3'
              go_wp2_with fail
              go_ret
              exact ⟨by simp, B10⟩
            · subst e2
              rcases e1 with rfl | rfl
              · injection hz with c1' c2'
                injection c2' with c2' c3'
                subst c1' c2' c3'
                go_wp2_with fail
                go_ret
                exact ⟨by simp, B10⟩
              · injection hz with c1' c2'
                injection c2' with c2' c3'
                subst c1' c2' c3'
                go_wp2_with fail
                go_ret
                exact ⟨by simp, B10⟩
            · subst e1 e2
              have hz : (c1, c2, c3) = ((0, 7, 90) : Ty) := hz
              injection hz with c1' c2'
              injection c2' with c2' c3'
              subst c1' c2' c3'
              go_wp2_with fail
              go_ret
              exact ⟨by simp, B10⟩
            · subst e1 e2
              injection hz with c1' c2'
              injection c2' with c2' c3'
              subst c1' c2' c3'
              go_wp2_with fail
              go_ret
              exact ⟨by simp, B10⟩
            · subst e1
              rcases e2 with rfl | rfl
              · injection hz with c1' c2'
                injection c2' with c2' c3'
                subst c1' c2' c3'
                go_wp2_with fail
                go_ret
                exact ⟨by simp, B10⟩
              · injection hz with c1' c2'
                injection c2' with c2' c3'
                subst c1' c2' c3'
                go_wp2_with fail
                go_ret
                exact ⟨by simp, B10⟩
    · have hs' : (150 : Int) < s := by omega
      go_wp2_with fail
      go_ret
      exact ⟨rfl, B4⟩
  · have hr' : (150 : Int) < r := by omega
    go_wp2_with fail
    go_ret
    exact ⟨rfl, B3⟩
end Go.Proofs.YteankdaegdhfiaaGreatDoor
/- The law TypesKids. -/
namespace Go.Proofs.YteankdaegdhfiaaGreatDoor
open Go.RowKit

theorem kids_any (a : Ex) (cs : Array Value) (b : Ex) (ds : Array Value) (n : Nat) (w : World) (hTa : TrP (fun _ : Nat => True) w a cs) (hSa : Sm a) (hTb : TrP (fun _ : Nat => True) w b ds) (hSb : Sm b) (_ : n ≤ 255) (he : Ev w ∧ Et w) : Calls Tryz.prog 8 #[.agg cs, .agg ds, .int .u8 n] w fun x w' => x = .returned (.bool true) ∧ Below w.heap.size w w' := by
  rcases (by omega : n % 6 = 0 ∨ n % 6 = 1 ∨ n % 6 = 2 ∨ n % 6 = 3 ∨ n % 6 = 4 ∨ n % 6 = 5) with h | h | h | h | h | h
  · exact kids0 n (by rw [Int.tmod_eq_emod_of_nonneg (by omega)]; omega) a b cs ds w hTa hTb hSa hSb he.1 he.2
  · exact kids1 n (by rw [Int.tmod_eq_emod_of_nonneg (by omega)]; omega) a b cs ds w hTa hTb hSa hSb he.1 he.2
  · exact kids2 n (by rw [Int.tmod_eq_emod_of_nonneg (by omega)]; omega) a b cs ds w hTa hTb hSa hSb he.1 he.2
  · exact kids3 n (by rw [Int.tmod_eq_emod_of_nonneg (by omega)]; omega) a b cs ds w hTa hTb hSa hSb he.1 he.2
  · exact kids4 n (by rw [Int.tmod_eq_emod_of_nonneg (by omega)]; omega) a b cs ds w hTa hTb hSa hSb he.1 he.2
  · exact kids5 n (by rw [Int.tmod_eq_emod_of_nonneg (by omega)]; omega) a b cs ds w hTa hTb hSa hSb he.1 he.2
end Go.Proofs.YteankdaegdhfiaaGreatDoor
/- A tree that is handed in, out of its reading. -/
namespace Go.Proofs.YteankdaegdhfiaaGreatDoor
open Go.ChangeShapes Go.WideShapes Go.ChangeAt Go.RowKit Go.Deep

theorem c29 : Tryz.prog.cellsOf 29 = 13 := by kernel_rfl
theorem c87 : Tryz.prog.cellsOf 87 = 3 := by kernel_rfl
theorem cS : Tryz.prog.cellsOf 9 = 1 := by kernel_rfl
theorem cI : Tryz.prog.cellsOf 3 = 1 := by kernel_rfl
theorem cJ : Tryz.prog.cellsOf 2 = 1 := by kernel_rfl
theorem cB : Tryz.prog.cellsOf 4 = 1 := by kernel_rfl
theorem cN : Tryz.prog.cellsOf 24 = 2 := by kernel_rfl
theorem c25 : Tryz.prog.cellsOf 25 = 1 := by kernel_rfl
theorem c26 : Tryz.prog.cellsOf 26 = 1 := by kernel_rfl
theorem c27 : Tryz.prog.cellsOf 27 = 1 := by kernel_rfl
section
variable {H : Type} {enc : TypeId × Value → H} {W : World}
abbrev Rdg (enc : TypeId × Value → H) (W : World) (fuel : Nat) (t : TypeId) (cs : List Value) (x : DataW H × List MemPlace) : Prop := DataW.trod enc Tryz.prog W 0 (fun _ => true) true fuel t cs = some x
theorem l2 {α : Type} : ∀ {l : List α}, l.length = 2 → ∃ a b, l = [a, b]
  | [a, b], _ => ⟨a, b, rfl⟩
theorem l3 {α : Type} : ∀ {l : List α}, l.length = 3 → ∃ a b c, l = [a, b, c]
  | [a, b, c], _ => ⟨a, b, c, rfl⟩
theorem l6 {α : Type} : ∀ {l : List α}, l.length = 6 → ∃ a b c d e f, l = [a, b, c, d, e, f]
  | [a, b, c, d, e, f], _ => ⟨a, b, c, d, e, f, rfl⟩
theorem lSplit {α : Type} {l : List α} (n m : Nat) (h : l.length = n + m) : ∃ a b, l = a ++ b ∧ a.length = n ∧ b.length = m := ⟨l.take n, l.drop n, (List.take_append_drop n l).symm, by rw [List.length_take]; omega, by rw [List.length_drop]; omega⟩
theorem l12 {α : Type} {l : List α} (h : l.length = 12) : ∃ v0 v1 v2 v3 v4 v5 v6 v7 v8 v9 v10 v11, l = [v0, v1, v2, v3, v4, v5, v6, v7, v8, v9, v10, v11] := by
  obtain ⟨a, b, rfl, ha, hb⟩ := lSplit 6 6 h
  obtain ⟨v0, v1, v2, v3, v4, v5, rfl⟩ := l6 ha
  obtain ⟨v6, v7, v8, v9, v10, v11, rfl⟩ := l6 hb
  exact ⟨v0, v1, v2, v3, v4, v5, v6, v7, v8, v9, v10, v11, rfl⟩
theorem l13 {α : Type} {l : List α} (h : l.length = 13) : ∃ v v0 v1 v2 v3 v4 v5 v6 v7 v8 v9 v10 v11, l = [v, v0, v1, v2, v3, v4, v5, v6, v7, v8, v9, v10, v11] := by
  cases l with
  | nil => cases h
  | cons v l =>
    obtain ⟨v0, v1, v2, v3, v4, v5, v6, v7, v8, v9, v10, v11, rfl⟩ := l12 (l := l) (by simpa using h)
    exact ⟨v, v0, v1, v2, v3, v4, v5, v6, v7, v8, v9, v10, v11, rfl⟩
theorem cellsM_l3 : ∀ l, (cellsM l).length = l.length * 3
  | [] => rfl
  | x :: l => by
    show (_ ++ cellsM l).length = _
    rw [List.length_append, cellsM_l3 l, List.length_cons]
    simp
    omega
/-- A slice's elements, each out of its reading. -/
theorem sl_of {fuel : Nat} {t e : TypeId} {v : Value} {x : DataW H × List MemPlace} (c : Nat) (hc : Tryz.prog.cellsOf e = c) (hc0 : 0 < c) (ht : Tryz.prog.underlying t = some (.slice e)) (h : Rdg enc W fuel t [v] x) :
    ∃ ao len cap, v = .slice ao len cap ∧ len ≤ cap ∧ len ≤ 9223372036854775807 ∧ ∃ b off n, n < fuel ∧ (0 < len → ao = some ⟨b, off, none⟩) ∧ ∀ i, i < len → ∃ cs' x', cs'.length = c ∧ (∀ j, j < c → W.cell? ⟨b, off + (i * c + j), none⟩ = cs'[j]?) ∧ Rdg enc W n e cs' x' := by
  rcases DataW.trod_slice ht h with h0 | ⟨a, len, cap, elems, rest, n, hn, hcs, _, _, hl, hm, hlen, hel, _, _⟩
  · have e0 : v = .slice none 0 0 := by simpa using h0.1
    cases fuel with
    | zero => cases h
    | succ m => exact ⟨none, 0, 0, e0, by omega, by omega, 0, 0, m, by omega, fun q => by omega, fun i q => by omega⟩
  · have e0 : v = .slice (some a) len cap := by simpa using hcs
    have key : ∀ i, i < len → ∃ cs' x', W.cells? 0 (a.add (i * c)) c = some cs' ∧ Rdg enc W n e cs' x' := fun i hi => by
      have h1 := hel i hi
      rw [List.getElem?_eq_getElem (by omega), hc] at h1
      cases hq : W.cells? 0 (a.add (i * c)) c with
      | none => rw [hq] at h1; cases h1
      | some cs' => rw [hq] at h1; exact ⟨cs', _, rfl, h1⟩
    obtain ⟨b, off, spot⟩ := a
    have hsp : 0 < len → spot = none := fun hp => by
      obtain ⟨cs', x', h1, _⟩ := key 0 hp
      obtain ⟨_, hl', hcell⟩ := World.cells?_some h1
      have h2 := hcell 0 hc0
      rw [List.getElem?_eq_getElem (by omega)] at h2
      simpa [Addr.add] using World.cell?_spot h2
    refine ⟨_, len, cap, e0, hl, by unfold maxLen at hm; omega, b, off, n, by omega, fun hp => ?_, fun i hi => ?_⟩
    · rw [hsp hp]
    · obtain ⟨cs', x', h1, h3⟩ := key i hi
      obtain ⟨_, hl', hcell⟩ := World.cells?_some h1
      obtain rfl := hsp (by omega)
      refine ⟨cs', x', hl', fun j hj => ?_, h3⟩
      have h4 := hcell j hj
      rw [add_add, Addr.add_lit] at h4
      exact h4
theorem str_of {fuel : Nat} {v : Value} {x : DataW H × List MemPlace} (h : Rdg enc W fuel 9 [v] x) : ∃ s : Str, v = tx s ∧ Big s := by
  obtain ⟨s, z, _, b⟩ := DataW.trod_string Tryz.underlying9 h
  obtain ⟨l, q, n⟩ := tx_of s
  refine ⟨l, ?_, ?_⟩
  · have : v = .string s := by simpa using z
    rw [this, ← q]
  · show l.length ≤ _
    unfold maxLen at b
    omega
theorem num_of {fuel : Nat} {v : Value} {x : DataW H × List MemPlace} (h : Rdg enc W fuel 3 [v] x) : ∃ n : Int, v = .int .i64 n := by
  obtain ⟨n, z, _, _⟩ := DataW.trod_int Tryz.underlying3 h
  exact ⟨n, by simpa using z⟩
theorem i64_of {fuel : Nat} {v : Value} {x : DataW H × List MemPlace} (h : Rdg enc W fuel 2 [v] x) : ∃ n : Int, v = .int .i64 n ∧ -9223372036854775808 ≤ n ∧ n ≤ 9223372036854775807 := by
  obtain ⟨n, z, _, wf⟩ := DataW.trod_int Tryz.underlying2 h
  exact ⟨n, by simpa using z, by simpa [Lit.wf, IntKind.min, IntKind.max, IntKind.signed, IntKind.bits] using wf⟩
theorem bool_of {fuel : Nat} {v : Value} {x : DataW H × List MemPlace} (h : Rdg enc W fuel 4 [v] x) : ∃ n : Bool, v = .bool n := by
  obtain ⟨n, z, _⟩ := DataW.trod_bool Tryz.underlying4 h
  exact ⟨n, by simpa using z⟩
theorem strs9_of {fuel : Nat} {v : Value} {x : DataW H × List MemPlace} (h : Rdg enc W fuel 26 [v] x) : ∃ l : List Str, SlP (fun _ => True) W v l.length (l.map tx) ∧ (∀ y ∈ l, Big y) ∧ l.length ≤ 9223372036854775807 := by
  obtain ⟨ao, len, cap, rfl, hl, hm, b, off, n, _, hao, hel⟩ := sl_of 1 cS (by omega) Tryz.underlying26 h
  obtain ⟨f, hf⟩ := @choose_lt Str ⟨[]⟩ len (fun i s => W.cell? ⟨b, off + i, none⟩ = some (tx s) ∧ Big s) (fun i hi => by
    obtain ⟨cs', x', h1, h2, h3⟩ := hel i hi
    match cs', h1 with
    | [u], _ =>
      obtain ⟨s, rfl, hb⟩ := str_of h3
      have h4 := h2 0 (by omega)
      exact ⟨s, by simpa using h4, hb⟩)
  refine ⟨(List.range len).map f, ⟨ao, cap, by simp, by simpa using hl, fun hp => ?_⟩, ?_, by simpa using hm⟩
  · have hp' : 0 < len := by simpa using hp
    refine ⟨b, off, hao hp', trivial, fun j hj => ?_⟩
    have hj' : j < len := by simpa using hj
    rw [(hf j hj').1]
    simp [hj']
  · intro y hy
    obtain ⟨i, hi, rfl⟩ := List.mem_map.1 hy
    exact (hf i (List.mem_range.1 hi)).2
theorem mats9_of {fuel : Nat} {v : Value} {x : DataW H × List MemPlace} (h : Rdg enc W fuel 25 [v] x) : ∃ l : List Mt, SlP (fun _ => True) W v l.length (cellsM l) ∧ (∀ y ∈ l, Big y.name ∧ Big y.text) ∧ l.length ≤ 9223372036854775807 := by
  obtain ⟨ao, len, cap, rfl, hl, hm, b, off, n, _, hao, hel⟩ := sl_of 3 c87 (by omega) Tryz.underlying25 h
  obtain ⟨f, hf⟩ := @choose_lt Mt ⟨⟨[], 0, []⟩⟩ len (fun i s => (W.cell? ⟨b, off + (i * 3 + 0), none⟩ = some (tx s.name) ∧ W.cell? ⟨b, off + (i * 3 + 1), none⟩ = some (.int .i64 s.kind) ∧ W.cell? ⟨b, off + (i * 3 + 2), none⟩ = some (tx s.text)) ∧ Big s.name ∧ Big s.text) (fun i hi => by
    obtain ⟨cs', x', h1, h2, h3⟩ := hel i hi
    obtain ⟨xs, k, _, _, _, hxl, hfs⟩ := DataW.trod_struct Tryz.underlying87 h3
    obtain ⟨y0, y1, y2, rfl⟩ := l3 (hxl.trans rfl)
    obtain ⟨v0, v1, v2, rfl⟩ := l3 h1
    · have g0 := hfs 0 _ rfl
      have g1 := hfs 1 _ rfl
      have g2 := hfs 2 _ rfl
      simp [cS, cI] at g0 g1 g2
      obtain ⟨s0, rfl, b0⟩ := str_of g0
      obtain ⟨n1, rfl⟩ := num_of g1
      obtain ⟨s2, rfl, b2⟩ := str_of g2
      exact ⟨⟨s0, n1, s2⟩, ⟨by simpa using h2 0 (by omega), by simpa using h2 1 (by omega), by simpa using h2 2 (by omega)⟩, b0, b2⟩)
  have hml : ((List.range len).map f).length = len := by simp
  refine ⟨(List.range len).map f, ⟨ao, cap, by rw [hml], by rw [hml]; exact hl, fun hp => ?_⟩, ?_, by rw [hml]; exact hm⟩
  · have hp' : 0 < len := by rw [hml] at hp; exact hp
    refine ⟨b, off, hao hp', trivial, fun j hj => ?_⟩
    have hcl : (cellsM ((List.range len).map f)).length = len * 3 := by rw [cellsM_len, hml]
    rw [hcl] at hj
    have hi : j / 3 < len := by omega
    obtain ⟨a0, a1, a2⟩ := cellsM_at ((List.range len).map f) (j / 3) (by rw [hml]; exact hi)
    have hfi : ((List.range len).map f).getD (j / 3) ⟨[], 0, []⟩ = f (j / 3) := by simp [List.getD, hi]
    rw [hfi] at a0 a1 a2
    obtain ⟨⟨p0, p1, p2⟩, _⟩ := hf (j / 3) hi
    rcases (by omega : j % 3 = 0 ∨ j % 3 = 1 ∨ j % 3 = 2) with hr | hr | hr
    · have e : j = j / 3 * 3 := by omega
      rw [e, a0, ← p0, Nat.add_zero]
    · have e : j = j / 3 * 3 + 1 := by omega
      rw [e, a1, ← p1]
    · have e : j = j / 3 * 3 + 2 := by omega
      rw [e, a2, ← p2]
  · intro y hy
    obtain ⟨i, hi, rfl⟩ := List.mem_map.1 hy
    exact (hf i (List.mem_range.1 hi)).2
theorem tree_of : ∀ (fuel : Nat) (cs : List Value) (x : DataW H × List MemPlace), Rdg enc W fuel 29 cs x → ∃ e, TrP (fun _ => True) W e cs.toArray ∧ Sm e ∧ Vr e := by
  intro fuel
  induction fuel using Nat.strongRecOn with
  | _ fuel ih =>
    intro cs x h
    obtain ⟨xs, k, hk, _, hlen, hxl, hfs⟩ := DataW.trod_struct Tryz.underlying29 h
    rw [c29] at hlen
    obtain ⟨y0, y1, y2, y3, y4, y5, y6, y7, y8, y9, y10, y11, rfl⟩ := l12 (hxl.trans rfl)
    obtain ⟨v0, v1, v2, v3, v4, v5, v6, v7, v8, v9, v10, v11, v12, rfl⟩ := l13 hlen
    · have g0 := hfs 0 _ rfl
      have g1 := hfs 1 _ rfl
      have g2 := hfs 2 _ rfl
      have g3 := hfs 3 _ rfl
      have g4 := hfs 4 _ rfl
      have g5 := hfs 5 _ rfl
      have g6 := hfs 6 _ rfl
      have g7 := hfs 7 _ rfl
      have g8 := hfs 8 _ rfl
      have g9 := hfs 9 _ rfl
      have g10 := hfs 10 _ rfl
      have g11 := hfs 11 _ rfl
      simp [cS, cI, cB, cN, c25, c26, c27] at g0 g1 g2 g3 g4 g5 g6 g7 g8 g9 g10 g11
      obtain ⟨n0, rfl⟩ := num_of g0
      obtain ⟨n1, rfl⟩ := num_of g1
      obtain ⟨xs2, k2, _, _, _, hxl2, hfs2⟩ := DataW.trod_struct Tryz.underlying24 g2
      obtain ⟨z0, z1, rfl⟩ := l2 (hxl2.trans rfl)
      · have r0 := hfs2 0 _ rfl
        have r1 := hfs2 1 _ rfl
        simp [cB, cJ] at r0 r1
        obtain ⟨o, rfl⟩ := bool_of r0
        obtain ⟨nv, rfl, hv0, hv1⟩ := i64_of r1
        obtain ⟨s, rfl, hsb⟩ := str_of g3
        obtain ⟨m, sm, hmb, hml⟩ := mats9_of g4
        obtain ⟨nr, rfl⟩ := num_of g5
        obtain ⟨b1, rfl⟩ := bool_of g6
        obtain ⟨b2, rfl⟩ := bool_of g7
        obtain ⟨b3, rfl⟩ := bool_of g8
        obtain ⟨b4, rfl⟩ := bool_of g9
        obtain ⟨ns, sn, hnb, hnl⟩ := strs9_of g10
        obtain ⟨ao, len, cap, rfl, hl, hm, b, off, n, hn, hao, hel⟩ := sl_of 13 c29 (by omega) Tryz.underlying27 g11
        obtain ⟨f, hf⟩ := @choose_lt (Ex × List Value) ⟨(ex0, [])⟩ len (fun i p => p.2.length = 13 ∧ (∀ j, j < 13 → W.cell? ⟨b, off + (i * 13 + j), none⟩ = p.2[j]?) ∧ TrP (fun _ => True) W p.1 p.2.toArray ∧ Sm p.1 ∧ Vr p.1) (fun i hi => by
          obtain ⟨cs', x', q1, q2, q3⟩ := hel i hi
          obtain ⟨e, te, se, ve⟩ := ih n (by omega) cs' x' q3
          exact ⟨(e, cs'), q1, q2, te, se, ve⟩)
        refine ⟨⟨n0, n1, o, nv, s, m, nr, b1, b2, b3, b4, ns, (List.range len).map fun i => (f i).1⟩, ?_, ?_, ?_⟩
        · rw [Tr_eq]
          refine ⟨_, _, _, (List.range len).map fun i => (f i).2.toArray, rfl, sm, sn, ?_, by simp, fun i y hy hi => ?_⟩
          · refine ⟨ao, cap, by simp, by simpa using hl, fun hp => ?_⟩
            have hp' : 0 < len := by simpa using hp
            refine ⟨b, off, hao hp', trivial, fun j hj => ?_⟩
            have all : ∀ a ∈ (List.range len).map (fun i => (f i).2.toArray), a.size = 13 := fun a ha => by
              obtain ⟨i, hi, rfl⟩ := List.mem_map.1 ha
              have := (hf i (List.mem_range.1 hi)).1
              simpa using this
            rw [flat_len _ all] at hj
            simp only [List.length_map, List.length_range] at hj
            have hi : j / 13 < len := by omega
            have e : j = j / 13 * 13 + j % 13 := by omega
            have hq := flat13 _ all (j / 13) (j % 13) (by simpa using hi) (by omega)
            rw [← e] at hq
            rw [hq]
            have hg : ((List.range len).map fun i => (f i).2.toArray).getD (j / 13) #[] = (f (j / 13)).2.toArray := by simp [List.getD, hi]
            rw [hg]
            have hw := (hf (j / 13) hi).2.1 (j % 13) (by omega)
            rw [← e] at hw
            rw [hw]
            simp
          · have hi' : i < len := by
              have := (List.getElem?_eq_some_iff.1 hi).1
              simpa using this
            have hy2 : y = (f i).1 := by
              simp [hi'] at hi
              exact hi.symm
            have hg : ((List.range len).map fun i => (f i).2.toArray).getD i #[] = (f i).2.toArray := by simp [List.getD, hi']
            rw [hg, hy2]
            exact (hf i hi').2.2.1
        · refine (Sm_eq _).2 ⟨hsb, hmb, hnb, hml, hnl, by simpa using hm, fun y hy => ?_⟩
          obtain ⟨i, hi, rfl⟩ := List.mem_map.1 hy
          exact (hf i (List.mem_range.1 hi)).2.2.2.1
        · refine (Vr_eq _).2 ⟨⟨hv0, hv1⟩, fun y hy => ?_⟩
          obtain ⟨i, hi, rfl⟩ := List.mem_map.1 hy
          exact (hf i (List.mem_range.1 hi)).2.2.2.2
end
end Go.Proofs.YteankdaegdhfiaaGreatDoor
/- TypesKids: for every input the law returns true, and its arguments read as they did: the row, and its card, tied to the program's text. Conditions: none beyond the card's own. -/
namespace Go.Proofs.YteankdaegdhfiaaGreatDoor.typesKidsRow
open Go.ChangeShapes Go.WideShapes Go.ChangeAt Go.RowKit Go.Joins Go.ChangeMaps

theorem own : ownKnob Tryz.prog.godebug = none := by kernel_rfl
set_option maxRecDepth 100000 in
theorem lifted (os : Os) (started : os.Started) (H : Type) (enc : TypeId × Value → H) :
    ReturnsInHanded {} Tryz.checked os 8 .any (fun w args => (Rows.typesKidsSpec.pre enc Tryz.prog Tryz.f8 Rows.typesKidsRow.domain false w args ∧ laidMetH Tryz.prog Rows.typesKidsRow.laid w) ∧ sizedMet enc Tryz.prog Tryz.f8 (OpenSpec.ofChange Rows.typesKidsSpec) false w args)
      (Rows.typesKidsSpec.post enc Tryz.prog Tryz.f8 false true false false) := by
  refine lift_env (fun _ _ _ hh h => h.of_heap hh) (C := Tryz.checked) (X := fun w _ => laidMetH Tryz.prog Rows.typesKidsRow.laid w) own started (by kernel_rfl) Tryz.func8
    (ChangeSpec.witness_shaped (enc := enc) (C := Tryz.checked) (os := os) (X := fun w _ => laidMetH Tryz.prog Rows.typesKidsRow.laid w) false (wL Tryz.prog os 183 (.pointer (some ⟨9, 93, none⟩)) Rows.typesKidsRow.laid) #[.agg #[.int .i64 0, .int .i64 0, .bool false, .int .i64 0, .string ⟨#[]⟩, .slice none 0 0, .int .i64 0, .bool false, .bool false, .bool false, .bool false, .slice none 0 0, .slice none 0 0], .agg #[.int .i64 0, .int .i64 0, .bool false, .int .i64 0, .string ⟨#[]⟩, .slice none 0 0, .int .i64 0, .bool false, .bool false, .bool false, .bool false, .slice none 0 0, .slice none 0 0], .int .u8 0] 8 (wL_os _ _ _ _ _)
      (World.shaped_of_ZipB (by kernel_rfl) (by kernel_rfl)) (by kernel_rfl) (by kernel_rfl) (by kernel_rfl)
      (wL_met _ (by kernel_rfl) (by kernel_rfl) (by kernel_rfl))) ?_
  intro W base args ds gs before hval0 hW hsh hL
  have hval : ∀ (j : Nat) t v, Tryz.f8.params[j]? = some t → args[j]? = some v → Value.okWide Tryz.prog W .any base t v := hval0
  have hW' := hW
  obtain ⟨p, q, hA0, hV, rfl, hfz, hnd⟩ := hW
  have hA : DataW.TrodAll enc Tryz.prog W 0 (fun _ => true) true Tryz.f8.params.toList args.toList ds p := hA0
  rw [Tryz.params8] at hA hval
  obtain ⟨v0, vs0, d0, ds0, p0, q0, hargs, rfl, rfl, h0, r0⟩ := trodAll_cons hA
  obtain ⟨v1, vs1, d1, ds1, p1, q1, rfl, rfl, rfl, h1, r1⟩ := trodAll_cons r0
  obtain ⟨v2, vs2, d2, ds2, p2, q2, rfl, rfl, rfl, h2, r2⟩ := trodAll_cons r1
  obtain ⟨rfl, rfl, rfl⟩ := trodAll_nil r2
  obtain rfl : args = #[v0, v1, v2] := by cases args; simp_all
  obtain ⟨rfl, rfl⟩ := trodVars_none hV
  have k0 := h0
  have lt0 : ∀ x ∈ p0, x.block < W.heap.size := by obtain ⟨m, hm⟩ := k0; exact DataW.trod_lt m _ _ _ hm
  obtain ⟨cs0, rfl, _⟩ := okWide_struct Tryz.underlying29 (hval 0 29 v0 rfl rfl)
  obtain ⟨fu0, hfu0⟩ := h0
  obtain ⟨e0, te0, se0, ve0⟩ := tree_of fu0 cs0.toList _ hfu0
  rw [Array.toArray_toList] at te0
  have k1 := h1
  have lt1 : ∀ x ∈ p1, x.block < W.heap.size := by obtain ⟨m, hm⟩ := k1; exact DataW.trod_lt m _ _ _ hm
  obtain ⟨cs1, rfl, _⟩ := okWide_struct Tryz.underlying29 (hval 1 29 v1 rfl rfl)
  obtain ⟨fu1, hfu1⟩ := h1
  obtain ⟨e1, te1, se1, ve1⟩ := tree_of fu1 cs1.toList _ hfu1
  rw [Array.toArray_toList] at te1
  obtain ⟨n2, rfl, rfl, rfl, w2⟩ := open_int Tryz.underlying5 (hval 2 5 v2 rfl rfl) h2
  have b2 : 0 ≤ n2 ∧ n2 ≤ 255 := by simpa [Lit.wf, IntKind.min, IntKind.max, IntKind.signed, IntKind.bits] using w2
  obtain ⟨N2, rfl⟩ : ∃ N : Nat, n2 = N := ⟨n2.toNat, by omega⟩
  clear hA0 hval0
  simp only [List.append_nil] at hW'
  refine (kids_any e0 cs0 e1 cs1 N2 W te0 se0 te1 se1 (by omega)   (env_ty hsh hL)).mono fun e W' ⟨he, hg⟩ => ?_
  subst he
  exact ⟨_, rfl, _, _, _, [], _, [], hW', trodAll_mk1 (shut_bool Tryz.underlying4 _), (trodAll_cons_mk (Below.trod laidOut (by kernel_rfl) (of_decide_eq_true (by kernel_rfl)) k0 hg lt0) (trodAll_cons_mk (Below.trod laidOut (by kernel_rfl) (of_decide_eq_true (by kernel_rfl)) k1 hg lt1) (trodAll_cons_mk (shut_int Tryz.underlying5 w2) trodAll_mk0))), rfl, hg.frame _, fun h => by cases h⟩

theorem c1 : Rows.typesKidsRow.inPlace = Tryz.prog.inPlace 8 := by kernel_rfl
theorem c2 : Rows.typesKidsRow.unfollowed = Tryz.prog.unfollowed 8 := by kernel_rfl
theorem c3 : Rows.typesKidsRow.recurses = Tryz.prog.recurses 8 := by kernel_rfl
theorem c4 : Rows.typesKidsRow.named = Tryz.prog.varsNamed 8 := by kernel_rfl
theorem facts : joinedFacts Tryz.prog 8 Tryz.f8 Rows.typesKidsSpec Rows.typesKidsRow = true := by
  unfold joinedFacts
  rw [← c1, ← c2, ← c3, ← c4]
  kernel_rfl
theorem wraps : Tryz.f8.isWrapper Tryz.prog Rows.typesKidsRow.wrapper Rows.typesKidsRow.mainSum := by unfold Func.isWrapper; first | (rw [if_pos (by decide +kernel)]; kernel_rfl) | (rw [if_neg (by decide +kernel)]; exact ⟨rfl, rfl⟩)
theorem inst : Tryz.f8.isInstance Tryz.prog Rows.typesKidsRow.origin Rows.typesKidsRow.targs := of_decide_eq_true (by kernel_rfl)
theorem goes : false = Rows.typesKidsRow.goesBy Tryz.prog := by kernel_rfl
theorem text : Rows.typesKidsRow.wfByText (OpenSpec.ofChange Rows.typesKidsSpec) = true := by kernel_rfl
theorem looks : true = Tryz.prog.looks [] := by kernel_rfl
theorem holds : Rows.TypesKidsSaid :=
  OpenClaim.holds_of_wide 8 Tryz.f8 rfl rfl rfl rfl rfl rfl rfl ⟨rfl, rfl, rfl, rfl, rfl⟩ rfl rfl rfl rfl rfl (by kernel_rfl) Tryz.func8 facts inst wraps (fun os started H enc _ => lifted os started H enc)
end Go.Proofs.YteankdaegdhfiaaGreatDoor.typesKidsRow
namespace Go.Proofs.YteankdaegdhfiaaGreatDoor
open Go
theorem typesKids_card : Rows.TypesKidsCardSaid :=
  Claim7.holds_tied_plain_at .later [] [.data, .data, .data, .data, .handle, .sentinel, .sentinel, .pinned] true (true, "fc8e6130e7cffdc4306bfdd31a4c3f023174449f413e0b6ecd463494529c6174") true typesKidsRow.holds (fun _ h => by cases h) typesKidsRow.text (fun _ h => by cases h) typesKids_row_tie rfl ⟨rfl, rfl⟩ (by kernel_rfl) rfl
    (fun f fn hf hfn => by
      obtain rfl : f = 8 := Option.some.inj ((show Tryz.prog.funcNamed "spillway/spillwaylaw9.TypesKids" = some 8 by kernel_rfl).symm.trans hf) |>.symm
      obtain rfl : fn = Tryz.f8 := (Option.some.inj (Tryz.func8.symm.trans hfn)).symm
      exact ⟨typesKidsRow.looks, fun j t ht => by
        rw [Tryz.params8] at ht
        have hm : t ∈ [29, 29, 5] := by simpa using Array.mem_of_getElem? ht
        have hall : ([29, 29, 5].all fun u => !Tryz.prog.wantsStandIn u) = true := by kernel_rfl
        exact (show Tryz.prog.wantsStandIn t = false by simpa using List.all_eq_true.1 hall t hm)⟩)
    typesKidsRow.goes
end Go.Proofs.YteankdaegdhfiaaGreatDoor
