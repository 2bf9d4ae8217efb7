/- Texts that the others lean on. -/
import Derived.Test.YtjgckfcocmhnhaaGreatDoorKQ1
namespace Go.Proofs.YtjgckfcocmhnhaaGreatDoor.Sp
open Go.RowKit
/-- An append to a row of series, run. -/
theorem step_app69 {ops : Array Oper} {o : Oper} {a : Act} {W : World} {K : Act → World → Prop} {Q : Exit → Act → World → Prop} {E : Prop} (s x : Operand) (d : Option Tmp)
  (ho : o.op = .call { callee := .builtin .append, args := #[s, x], argTypes := #[69, 69] }) (hd : o.dst = d) (ht : o.type = 69) (hw : Region.wanted o (yielded ops a.tmps) = true)
  (u v : Value) (hs : a.eval s = u) (hx : a.eval x = v) {r : Value} {W' : World} (hr : (Builtin.append_ #[69, 69] 69 #[u, v]).run Tryz.prog W = .ok r W') (h : K (a.put d r) W') :
  if Region.wanted o (yielded ops a.tmps) = true then Oper.wp Tryz.prog o a W K Q else E := by
 subst hd
 rw [if_pos hw]
 unfold Oper.wp
 simp [execOp, ho, ht, resolve, invoke, builtin, hs, hx, hr, Result.andThen]
 exact h
/-- What is the same of a series and of its copy. -/
def ky (r : Sr.SRec) : Value × List Lb.Pr × List Smp × Int := (r.lab, r.set, r.l, r.t)
/-- A copy half made: its first series. -/
def Cp (w W : World) (cb : Nat) (now : Int) (rs : List Sr.SRec) (j : Nat) : Prop :=
 ∃ aj cj rsj, Sr.Sx W cb now w.heap.size aj j cj rsj ∧ rsj.map ky = (rs.take j).map ky ∧ (∀ r ∈ rsj, w.heap.size ≤ r.ring) ∧ w.heap.size ≤ cb ∧ Below w.heap.size w W
theorem cp_step {w W1 W : World} {cb : Nat} {now : Int} {rs : List Sr.SRec} {j : Nat} {aj : Option Addr} {cj : Nat} {rsj : List Sr.SRec} (h1 : Sr.Sx W1 cb now w.heap.size aj j cj rsj) (hb1 : Below W1.heap.size W1 W) (hw1 : w.heap.size ≤ W1.heap.size) (hW : Below w.heap.size w W) (hcb : w.heap.size ≤ cb)
  (hk : rsj.map ky = (rs.take j).map ky) (hj : j < rs.length) (hjn : j ≤ 1000) (hrg : ∀ r ∈ rsj, w.heap.size ≤ r.ring) {lab : Value} (hlab : (rs.getD j Sr.r0).lab = lab) (hq : ∀ x ∈ rs, Sr.Pq w x.lab x.set) (ht : (rs.getD j Sr.r0).t = now)
  (hst : Rn.St W W1.heap.size (rs.getD j Sr.r0).l 100 now) {vb : Nat} (v0 : W.cell? ⟨vb, 0, none⟩ = some lab) (v1 : W.cell? ⟨vb, 1, none⟩ = some (.pointer (some ⟨W1.heap.size, 0, none⟩))) :
  ∃ ao' cap' w8, (Builtin.append_ #[69, 69] 69 #[.slice aj j cj, .slice (some ⟨vb, 0, none⟩) 1 1]).run Tryz.prog W = .ok (.slice ao' (j + 1) cap') w8 ∧ w8.cell? ⟨cb, 0, none⟩ = some (.slice aj j cj) ∧ w8.frozen? ⟨cb, 0, none⟩ = false ∧
   (∀ b o x, (∀ g, (Value.slice aj j cj).ownBlock = some g → b ≠ g) → W.cell? ⟨b, o, none⟩ = some x → w8.cell? ⟨b, o, none⟩ = some x) ∧ Cp w (w8.setCell ⟨cb, 0, none⟩ (.slice ao' (j + 1) cap')) cb now rs (j + 1) := by
 have h := h1.later hb1
 have hlj : rsj.length = j := h1.len
 have hm : rs.getD j Sr.r0 ∈ rs := by rw [List.getD_eq_getElem?_getD, List.getElem?_eq_getElem hj]; exact List.getElem_mem hj
 have hqw : Sr.Pq w lab (rs.getD j Sr.r0).set := hlab ▸ hq _ hm
 have hqr := hqw.later hW
 obtain ⟨xa, xn, xc, el, _, _, htl⟩ := id hqw
 obtain ⟨v', w8, hr, ho, hg, hwv⟩ := Sr.appendO_where W w.heap.size (.slice aj j cj) rsj ⟨lab, W1.heap.size, (rs.getD j Sr.r0).set, (rs.getD j Sr.r0).l, now⟩ h.p vb v0 v1 (by rw [el]; rfl) (by omega) hW.size
 obtain ⟨ao', cap', rfl⟩ : ∃ ao' cap', v' = .slice ao' (j + 1) cap' := by
  have hl : (rsj ++ [(⟨lab, W1.heap.size, (rs.getD j Sr.r0).set, (rs.getD j Sr.r0).l, now⟩ : Sr.SRec)]).length = j + 1 := by rw [List.length_append, hlj]; rfl
  rcases ho.2 with ⟨_, h0⟩ | ⟨g, c, cur, e, _⟩
  ·
   rw [hl] at h0; omega
  ·
   rw [hl] at e; exact ⟨_, _, e⟩
 have e : rsj.take j ++ (⟨lab, W1.heap.size, (rs.getD j Sr.r0).set, (rs.getD j Sr.r0).l, now⟩ : Sr.SRec) :: rsj.drop j = rsj ++ [⟨lab, W1.heap.size, (rs.getD j Sr.r0).set, (rs.getD j Sr.r0).l, now⟩] := by
  rw [List.take_of_length_le (by omega), List.drop_eq_nil_of_le (by omega)]
 obtain ⟨g1, g2, g3, g4⟩ := Sr.sx_insert (w7 := W) (p := j) (r := ⟨lab, W1.heap.size, (rs.getD j Sr.r0).set, (rs.getD j Sr.r0).l, now⟩) h (by rw [e]; exact ho) hg hwv hqr hst
  (fun e => by have h2 := h1.t.lt; have e2 : W1.heap.size = cb := e; omega) (fun g hg e => by have h2 := (Sr.row_ty h1.p hg).lt; have e2 : g = W1.heap.size := e; omega)
  (fun x hx g hg e => by obtain ⟨_, _, _, _, _, _, ht⟩ := h1.q x hx; have h2 := (ht g hg).lt; have e2 : g = W1.heap.size := e; omega)
  (fun g hg e => by have h2 := (htl g hg).lt; have e2 : g = W1.heap.size := e; omega)
  (fun x hx e => by have h2 := (h1.s x hx).m.lt; have e2 : x.ring = W1.heap.size := e; omega)
  (fun x hx g hg e => by have h2 := (htl g hg).lt; have h3 := hrg x hx; omega)
 rw [e] at g3
 have hbw := Sr.below_gf hW g4 (fun k hk => by
  rcases hk with e | e | ⟨r, hr, e⟩
  ·
   omega
  ·
   exact (World.ownsRow.lt h.p k e).1
  ·
   rw [e]; exact hrg r hr)
 refine ⟨ao', cap', w8, hr, g1, g2, fun b o x hb hc => hg.cell hc (fun e => hb b e.symm rfl), ao', cap', _, g3, ?_, fun r hr => ?_, hcb, hbw⟩
 ·
  rw [Sr.take_snocR hj, List.map_append, List.map_append, hk]
  simp only [List.map_cons, List.map_nil, ky, hlab, ht]
 ·
  rcases List.mem_append.1 hr with hr | hr
  ·
   exact hrg r hr
  ·
   rw [List.mem_singleton.1 hr]
   exact hw1
end Go.Proofs.YtjgckfcocmhnhaaGreatDoor.Sp
namespace Go.Proofs.YtjgckfcocmhnhaaGreatDoor.Sp
open Go.RowKit
theorem cp_new (w : World) (now : Int) (rs : List Sr.SRec) : Cp w (w.alloc (.cells #[.slice none 0 0, .int .i64 now] 71)) w.heap.size now rs 0 :=
 ⟨none, 0, [], ⟨by simp [go_sem], by simp [go_sem], by simp [go_sem], by simp [go_sem], Sr.Ty.new _ _ _, World.ownsRow_nil _ _ _ _, by simp, by simp, by simp, by simp, by simp, List.Pairwise.nil⟩, by simp, by simp, Nat.le_refl _, bal (Below.refl _ _) _⟩
set_option maxHeartbeats 8000000 in
set_option maxRecDepth 100000 in
theorem copy_walk (sb : Nat) (now : Int) (base : Nat) (ao : Option Addr) (n cap : Nat) (rs : List Sr.SRec) (w : World) (hx : Sr.Sx w sb now base ao n cap rs) (hrs : ∀ r ∈ rs, r.t = now) (hnow : 0 ≤ now ∧ now ≤ 1000000) (h16 : n ≤ 16) (hnr : ∀ r ∈ rs, ∀ s ∈ r.l, Rn.nrm s = s) :
  Calls Tryz.prog 16 #[.pointer (some ⟨sb, 0, none⟩)] w fun e w' => ∃ cb, e = .returned (.pointer (some ⟨cb, 0, none⟩)) ∧ Cp w w' cb now rs n := by
 have hln := hx.len
 have c0 := hx.c0
 have c1 := hx.c1
 have HX : Hid (∀ W, Below w.heap.size w W → Sr.Sx W sb now base ao n cap rs) := fun W hW => hx.later hW
 have HQ : Hid (∀ x ∈ rs, Sr.Pq w x.lab x.set) := hx.q
 have hsb := hx.t.lt
 clear hx
 go_enter Tryz.func16, Tryz.ntmps16
 go_upto_region 2 with fail
 have hcp := cp_new w now rs
 have hb0 := bal (Below.refl w.heap.size w) (.cells #[.slice none 0 0, .int .i64 now] 71)
 have HC0 : Hid (∀ W, Below w.heap.size w W → W.cell? ⟨sb, 0, none⟩ = some (.slice ao n cap) ∧ W.cell? ⟨sb, 1, none⟩ = some (.int .i64 now)) := fun W hW => ⟨(hW.cell (p := ⟨sb, 0, none⟩) (World.block_lt_of_cell? _ _ c0)).trans c0, (hW.cell (p := ⟨sb, 1, none⟩) (World.block_lt_of_cell? _ _ c1)).trans c1⟩
 clear c0 c1
 have d0 := (HC0.out _ hb0).1
 have HB1 : Hid _ := hb0
 generalize w.alloc (.cells #[.slice none 0 0, .int .i64 now] 71) = w1 at *
 go_wp2
 go_loopw [17] (fun x wr => ∃ j : Nat, j ≤ n ∧ x = .int .i64 j ∧ Hid (Cp w wr w.heap.size now rs j)) (fun x _ => n - (intOf x).toNat)
 case atStart => exact ⟨0, by omega, rfl, hcp⟩
 case round =>
  obtain ⟨j, hjn, rfl, hst⟩ := hrel
  clear hcp hb0 d0
  by_cases hlt : j < n
  ·
   have hd : decide ((j : Int) < (n : Int)) = true := decide_eq_true (by omega)
   have hdn : decide ((n : Int) ≤ (j : Int)) = false := decide_eq_false (by omega)
   obtain ⟨aj, cj, rsj, hxj, hk, hrg, hcb, hbw⟩ := hst.out
   have hxr := HX.out _ hbw
   obtain ⟨g, rfl, -, hc⟩ := hxr.os.2 (by omega)
   obtain ⟨e0, e1⟩ := hc j hlt
   have hmem : rs.getD j Sr.r0 ∈ rs := by rw [List.getD_eq_getElem?_getD, List.getElem?_eq_getElem (by omega)]; exact List.getElem_mem (by omega)
   obtain ⟨r, hrE⟩ : ∃ r, rs.getD j Sr.r0 = r := ⟨_, rfl⟩
   rw [hrE] at e0 e1 hmem
   have HRE : Hid _ := hrE
   clear hrE hc
   have hsr := hxr.s _ hmem
   have htn := hrs _ hmem
   have hnl := hnr _ hmem
   rw [htn] at hsr
   obtain ⟨xa, xn, xc, el, _, _, _⟩ := id (HQ.out _ hmem)
   rw [el] at e0
   have HL : Hid _ := el
   obtain ⟨rg, hrgE⟩ : ∃ x, r.ring = x := ⟨_, rfl⟩
   obtain ⟨l, hlE⟩ : ∃ l, r.l = l := ⟨_, rfl⟩
   rw [hrgE] at e1 hsr
   rw [hlE] at hsr hnl
   have HLE : Hid _ := hlE
   have hl1 := hsr.f.le
   have hrl := hsr.f.rg
   have hall : Sr.addAll 100 now [] l = l := by
    rw [addAll_eq 100 now l [] hsr.f.so (fun s hs => by have := hsr.f.at_ s hs; exact ⟨by omega, by omega, hnl s hs⟩) (by simp), List.nil_append]
    exact List.filter_eq_self.2 fun s hs => by have := hsr.f.at_ s hs; simpa using this.1
   have hring := fun (W : World) (ua : Option Addr) (uc : Nat) (hm : Rn.Ms W ua l.length l) => Sr.ring_any 100 now ua l.length uc l W (by omega) hnow (by omega) hm hrl
   rw [hall] at hring
   have HRING : Hid _ := hring
   go_upto_region 5 with fail
   have hb4 := bal (Below.refl wr.heap.size wr) (.cells #[.slice xa xn xc, .pointer (some ⟨rg, 0, none⟩)] 74)
   have hx4 := hxj.later hb4
   have HX4 : Hid (∀ W, Below (wr.alloc (.cells #[.slice xa xn xc, .pointer (some ⟨rg, 0, none⟩)] 74)).heap.size (wr.alloc (.cells #[.slice xa xn xc, .pointer (some ⟨rg, 0, none⟩)] 74)) W → Sr.Sx W w.heap.size now w.heap.size aj j cj rsj) := fun W hW => hx4.later hW
   have HST : Hid (∀ W, Below (wr.alloc (.cells #[.slice xa xn xc, .pointer (some ⟨rg, 0, none⟩)] 74)).heap.size (wr.alloc (.cells #[.slice xa xn xc, .pointer (some ⟨rg, 0, none⟩)] 74)) W → Rn.St W rg l 100 now) := fun W hW => hsr.later (Below.chain hb4 hW)
   have HBW : Hid (∀ W, Below (wr.alloc (.cells #[.slice xa xn xc, .pointer (some ⟨rg, 0, none⟩)] 74)).heap.size (wr.alloc (.cells #[.slice xa xn xc, .pointer (some ⟨rg, 0, none⟩)] 74)) W → Below w.heap.size w W) := fun W hW => Below.chain hbw (Below.chain hb4 hW)
   have HSS : Hid (∀ W, Below (wr.alloc (.cells #[.slice xa xn xc, .pointer (some ⟨rg, 0, none⟩)] 74)).heap.size (wr.alloc (.cells #[.slice xa xn xc, .pointer (some ⟨rg, 0, none⟩)] 74)) W → W.cell? ⟨wr.heap.size, 0, none⟩ = some (.slice xa xn xc) ∧ W.cell? ⟨wr.heap.size, 1, none⟩ = some (.pointer (some ⟨rg, 0, none⟩)) ∧ W.cell? ⟨sb, 1, none⟩ = some (.int .i64 now)) := fun W hW => by
    have q0 : (wr.alloc (.cells #[.slice xa xn xc, .pointer (some ⟨rg, 0, none⟩)] 74)).cell? ⟨wr.heap.size, 0, none⟩ = some (.slice xa xn xc) := by simp [go_sem]
    have q1 : (wr.alloc (.cells #[.slice xa xn xc, .pointer (some ⟨rg, 0, none⟩)] 74)).cell? ⟨wr.heap.size, 1, none⟩ = some (.pointer (some ⟨rg, 0, none⟩)) := by simp [go_sem]
    exact ⟨(hW.cell (p := ⟨wr.heap.size, 0, none⟩) (World.block_lt_of_cell? _ _ q0)).trans q0, (hW.cell (p := ⟨wr.heap.size, 1, none⟩) (World.block_lt_of_cell? _ _ q1)).trans q1, (HC0.out _ (HBW.out W hW)).2⟩
   have HNE : Hid ((∀ g, (Value.slice aj j cj).ownBlock = some g → wr.heap.size ≠ g) ∧ (∀ g, (Value.slice aj j cj).ownBlock = some g → sb ≠ g) ∧ wr.heap.size ≠ w.heap.size ∧ sb ≠ w.heap.size) :=
    ⟨fun g hg e => by have h2 := (Sr.row_ty hxj.p hg).lt; omega, fun g hg e => by have h2 := (World.ownsRow.lt hxj.p g hg).1; omega, fun e => by have h2 := hxj.t.lt; omega, by omega⟩
   have HK : Hid _ := hk
   have HRG : Hid _ := hrg
   have HHT : Hid _ := htn
   have HLT : Hid (j < n) := hlt
   clear hb4 hx4 hxj hsr hxr e0 e1 hst hbw hall hring hlE hrgE hk hrg htn hnl hmem el
   generalize wr.heap.size = ob at *
   generalize wr.alloc (.cells #[.slice xa xn xc, .pointer (some ⟨rg, 0, none⟩)] 74) = w4 at *
   have hbd := (Below.refl w4.heap.size w4).drew
   have hS0 : (fun W : World => W.cell? ⟨ob, 0, none⟩ = some (.slice xa xn xc) ∧ W.cell? ⟨ob, 1, none⟩ = some (.pointer (some ⟨rg, 0, none⟩)) ∧ W.cell? ⟨sb, 1, none⟩ = some (.int .i64 now)) _ := HSS.out _ hbd
   refine wp_region_noPanic ?_
   refine wp_region_held_drew (S := fun W : World => W.cell? ⟨ob, 0, none⟩ = some (.slice xa xn xc) ∧ W.cell? ⟨ob, 1, none⟩ = some (.pointer (some ⟨rg, 0, none⟩)) ∧ W.cell? ⟨sb, 1, none⟩ = some (.int .i64 now)) (by kernel_rfl) hS0 (fun _ => ?_)
   refine take_at 0 (some 21) (.pointer (some ⟨w.heap.size, 0, none⟩)) rfl rfl (by kernel_rfl) (by kernel_rfl) (by kernel_rfl) (fun _ _ _ h => h) (by rfl) (fun W hSw => by clear hSw; go_simp) hS0 ?_
   simp only [Act.put, List.setIfInBounds_toArray, List.set_cons_zero, List.set_cons_succ]
   refine take_at 1 (some 22) (.pointer (some ⟨w.heap.size, 0, none⟩)) rfl rfl (by kernel_rfl) (by kernel_rfl) (by kernel_rfl) (fun _ _ _ h => h) (by rfl) (fun W hSw => by clear hSw; go_simp) hS0 ?_
   simp only [Act.put, List.setIfInBounds_toArray, List.set_cons_zero, List.set_cons_succ]
   refine take_at 2 (some 23) (.pointer (some ⟨w.heap.size, 0, none⟩)) rfl rfl (by kernel_rfl) (by kernel_rfl) (by kernel_rfl) (fun _ _ _ h => h) (by rfl) (fun W hSw => by clear hSw; go_simp) hS0 ?_
   simp only [Act.put, List.setIfInBounds_toArray, List.set_cons_zero, List.set_cons_succ]
   refine take_at 3 (some 24) (.pointer (some ⟨w.heap.size, 0, none⟩)) rfl rfl (by kernel_rfl) (by kernel_rfl) (by kernel_rfl) (fun _ _ _ h => h) (by rfl) (fun W hSw => by clear hSw; go_simp) hS0 ?_
   simp only [Act.put, List.setIfInBounds_toArray, List.set_cons_zero, List.set_cons_succ]
   refine take_at 5 (some 26) (.pointer (some ⟨ob, 0, none⟩)) rfl rfl (by kernel_rfl) (by kernel_rfl) (by kernel_rfl) (fun _ _ _ h => h) (by rfl) (fun W hSw => by clear hSw; go_simp) hS0 ?_
   simp only [Act.put, List.setIfInBounds_toArray, List.set_cons_zero, List.set_cons_succ]
   refine take_at 6 (some 27) (.slice xa xn xc) rfl rfl (by kernel_rfl) (by kernel_rfl) (by kernel_rfl) (fun _ _ _ h => h) (by rfl) (fun W hSw => by obtain ⟨q0, q1, q2⟩ := hSw; go_simp) hS0 ?_
   simp only [Act.put, List.setIfInBounds_toArray, List.set_cons_zero, List.set_cons_succ]
   refine take_at 7 (some 28) (.pointer (some ⟨sb, 0, none⟩)) rfl rfl (by kernel_rfl) (by kernel_rfl) (by kernel_rfl) (fun _ _ _ h => h) (by rfl) (fun W hSw => by clear hSw; go_simp) hS0 ?_
   simp only [Act.put, List.setIfInBounds_toArray, List.set_cons_zero, List.set_cons_succ]
   refine take_at 8 (some 29) (.pointer (some ⟨sb, 0, none⟩)) rfl rfl (by kernel_rfl) (by kernel_rfl) (by kernel_rfl) (fun _ _ _ h => h) (by rfl) (fun W hSw => by clear hSw; go_simp) hS0 ?_
   simp only [Act.put, List.setIfInBounds_toArray, List.set_cons_zero, List.set_cons_succ]
   refine take_at 9 (some 30) (.pointer (some ⟨sb, 1, none⟩)) rfl rfl (by kernel_rfl) (by kernel_rfl) (by kernel_rfl) (fun _ _ _ h => h) (by rfl) (fun W hSw => by clear hSw; go_simp) hS0 ?_
   simp only [Act.put, List.setIfInBounds_toArray, List.set_cons_zero, List.set_cons_succ]
   refine take_at 10 (some 31) (.int .i64 now) rfl rfl (by kernel_rfl) (by kernel_rfl) (by kernel_rfl) (fun _ _ _ h => h) (by rfl) (fun W hSw => by obtain ⟨q0, q1, q2⟩ := hSw; go_simp) hS0 ?_
   simp only [Act.put, List.setIfInBounds_toArray, List.set_cons_zero, List.set_cons_succ]
   refine take_at 11 (some 32) (.pointer (some ⟨ob, 1, none⟩)) rfl rfl (by kernel_rfl) (by kernel_rfl) (by kernel_rfl) (fun _ _ _ h => h) (by rfl) (fun W hSw => by clear hSw; go_simp) hS0 ?_
   simp only [Act.put, List.setIfInBounds_toArray, List.set_cons_zero, List.set_cons_succ]
   refine take_at 12 (some 33) (.pointer (some ⟨rg, 0, none⟩)) rfl rfl (by kernel_rfl) (by kernel_rfl) (by kernel_rfl) (fun _ _ _ h => h) (by rfl) (fun W hSw => by obtain ⟨q0, q1, q2⟩ := hSw; go_simp) hS0 ?_
   simp only [Act.put, List.setIfInBounds_toArray, List.set_cons_zero, List.set_cons_succ]
   refine take_at 13 (some 34) (.pointer (some ⟨rg, 0, none⟩)) rfl rfl (by kernel_rfl) (by kernel_rfl) (by kernel_rfl) (fun _ _ _ h => h) (by rfl) (fun W hSw => by clear hSw; go_simp) hS0 ?_
   simp only [Act.put, List.setIfInBounds_toArray, List.set_cons_zero, List.set_cons_succ]
   refine take_at 14 (some 35) (.pointer (some ⟨rg, 0, none⟩)) rfl rfl (by kernel_rfl) (by kernel_rfl) (by kernel_rfl) (fun _ _ _ h => h) (by rfl) (fun W hSw => by clear hSw; go_simp) hS0 ?_
   simp only [Act.put, List.setIfInBounds_toArray, List.set_cons_zero, List.set_cons_succ]
   refine wpAnyH_ready (rs := [4, 15]) (by kernel_rfl) (by simp) ?_
   refine AllReadyH.cons rfl (fun K hK => ?_) (AllReadyH.cons rfl (fun K hK => ?_) AllReadyH.nil)
   ·
    skip
    have k0 := (HX4.out _ hbd).c0
    go_simp
    refine hK.out _ _ (HSS.out _ hbd) (fun _ => ?_)
    clear hK K k0
    refine wpAnyH_ready (rs := [15]) (by kernel_rfl) (by simp) ?_
    refine AllReadyH.cons rfl (fun K hK => ?_) AllReadyH.nil
    go_simp
    refine (Rn.all_any rg l 100 now _ (HST.out _ hbd).m).mono ?_
    rintro e wA ⟨v, rfl, hown, hbA⟩
    obtain ⟨ua, uc, rfl, hms⟩ := hown.slice
    have hBA := Below.chain hbd hbA
    have HMS : Hid _ := hms
    clear hown hbA hms
    refine hK.out _ _ (HSS.out _ hBA) (fun _ => ?_)
    clear hK K
    refine wpAnyH_ready (rs := [16]) (by kernel_rfl) (by simp) ?_
    refine AllReadyH.cons rfl (fun K hK => ?_) AllReadyH.nil
    go_simp
    refine (HRING.out _ ua uc HMS.out).mono ?_
    rintro e wB ⟨rfl, hstB, hbB⟩
    have hBB := Below.chain hBA hbB
    have HSTB : Hid _ := hstB
    have HBB : Hid _ := hbB
    clear hstB hbB
    refine hK.out _ _ (HSS.out _ hBB) (fun _ => ?_)
    clear hK K
    refine take_at 17 (some 38) (.agg #[.slice xa xn xc, .pointer (some ⟨wA.heap.size, 0, none⟩)]) rfl rfl (by kernel_rfl) (by kernel_rfl) (by kernel_rfl) (fun _ _ _ h => h) (by rfl) (fun W hSw => by clear hSw; go_simp) (HSS.out _ hBB) ?_
    simp only [Act.put, List.setIfInBounds_toArray, List.set_cons_zero, List.set_cons_succ]
    refine wpAnyH_ready (rs := [18]) (by kernel_rfl) (by simp) ?_
    refine AllReadyH.cons rfl (fun K hK => ?_) AllReadyH.nil
    go_simp
    have hbC := bal (Below.refl wB.heap.size wB) (.cells #[.slice xa xn xc, .pointer (some ⟨wA.heap.size, 0, none⟩)] 74)
    have hBC := Below.chain hBB hbC
    have V0 : (wB.alloc (.cells #[.slice xa xn xc, .pointer (some ⟨wA.heap.size, 0, none⟩)] 74)).cell? ⟨wB.heap.size, 0, none⟩ = some (.slice xa xn xc) := by simp [go_sem]
    have V1 : (wB.alloc (.cells #[.slice xa xn xc, .pointer (some ⟨wA.heap.size, 0, none⟩)] 74)).cell? ⟨wB.heap.size, 1, none⟩ = some (.pointer (some ⟨wA.heap.size, 0, none⟩)) := by simp [go_sem]
    have HCP : Hid _ := cp_step (HX4.out wA hBA) (Below.chain HBB.out hbC) (HBW.out _ hBA).size (HBW.out _ hBC) (Nat.le_refl _) HK.out (by rw [hln]; exact HLT.out) (by omega) HRG.out (lab := .slice xa xn xc) (by rw [HRE.out]; exact HL.out) HQ.out (by rw [HRE.out]; exact HHT.out) (by rw [HRE.out, HLE.out]; exact HSTB.out.later hbC) V0 V1
    clear V0 V1 hbC
    generalize wB.heap.size = vb at *
    generalize wB.alloc (.cells #[.slice xa xn xc, .pointer (some ⟨wA.heap.size, 0, none⟩)] 74) = wC at *
    refine hK.out _ _ (HSS.out _ hBC) (fun _ => ?_)
    clear hK K
    refine wpAnyH_ready (rs := [19]) (by kernel_rfl) (by simp) ?_
    refine AllReadyH.cons rfl (fun K hK => ?_) AllReadyH.nil
    obtain ⟨ao', cap', w8, hrun, g1, g2, g3, hcp2⟩ := HCP.out
    obtain ⟨n1, n2, n3, n4⟩ := HNE.out
    obtain ⟨q0, q1, q2⟩ := HSS.out _ hBC
    have HCP2 : Hid _ := hcp2
    refine step_app69 (.tmp 25) (.tmp 39) _ rfl rfl rfl (by kernel_rfl) _ _ rfl rfl hrun ?_
    have s0 := g3 _ _ _ n1 q0
    have s1 := g3 _ _ _ n1 q1
    have s2 := g3 _ _ _ n2 q2
    clear q0 q1 q2 hcp2 hrun
    have hS8 : (fun W : World => W.cell? ⟨ob, 0, none⟩ = some (.slice xa xn xc) ∧ W.cell? ⟨ob, 1, none⟩ = some (.pointer (some ⟨rg, 0, none⟩)) ∧ W.cell? ⟨sb, 1, none⟩ = some (.int .i64 now)) w8 := ⟨s0, s1, s2⟩
    refine hK.out _ _ hS8 (fun _ => ?_)
    clear hK K
    refine take_at 20 (some 41) (.pointer (some ⟨w.heap.size, 0, none⟩)) rfl rfl (by kernel_rfl) (by kernel_rfl) (by kernel_rfl) (fun _ _ _ h => h) (by rfl) (fun W hSw => by clear hSw; go_simp) hS8 ?_
    simp only [Act.put, List.setIfInBounds_toArray]
    refine take_at 21 (some 42) (.pointer (some ⟨w.heap.size, 0, none⟩)) rfl rfl (by kernel_rfl) (by kernel_rfl) (by kernel_rfl) (fun _ _ _ h => h) (by rfl) (fun W hSw => by clear hSw; go_simp) hS8 ?_
    simp only [Act.put]
    refine wpAnyH_ready (rs := [22]) (by kernel_rfl) (by simp) ?_
    refine AllReadyH.cons rfl (fun K hK => ?_) AllReadyH.nil
    go_simp
    have gs := Rn.grown_set w8 w.heap.size 0 (.slice ao' (j + 1) cap')
    refine hK.out _ _ ⟨gs.cell s0 (fun e => n3 (by injection e)), gs.cell s1 (fun e => n3 (by injection e)), gs.cell s2 (fun e => n4 (by injection e))⟩ (fun _ => ?_)
    clear hK K gs s0 s1 s2 g1 g2 g3
    refine wpAnyH_done (by kernel_rfl) ?_ _
    refine NoPanic.normal ?_
    go_wp2
    go_roundw
    case rel => exact ⟨j + 1, by omega, by go_num, HCP2.out⟩
    case measure => simp [intOf]; omega
   ·
    skip
    go_simp
    refine (Rn.all_any rg l 100 now _ (HST.out _ hbd).m).mono ?_
    rintro e wA ⟨v, rfl, hown, hbA⟩
    obtain ⟨ua, uc, rfl, hms⟩ := hown.slice
    have hBA := Below.chain hbd hbA
    have HMS : Hid _ := hms
    clear hown hbA hms
    refine hK.out _ _ (HSS.out _ hBA) (fun _ => ?_)
    clear hK K
    refine wpAnyH_ready (rs := [4, 16]) (by kernel_rfl) (by simp) ?_
    refine AllReadyH.cons rfl (fun K hK => ?_) (AllReadyH.cons rfl (fun K hK => ?_) AllReadyH.nil)
    ·
     skip
     have k0 := (HX4.out _ hBA).c0
     go_simp
     refine hK.out _ _ (HSS.out _ hBA) (fun _ => ?_)
     clear hK K k0
     refine wpAnyH_ready (rs := [16]) (by kernel_rfl) (by simp) ?_
     refine AllReadyH.cons rfl (fun K hK => ?_) AllReadyH.nil
     go_simp
     refine (HRING.out _ ua uc HMS.out).mono ?_
     rintro e wB ⟨rfl, hstB, hbB⟩
     have hBB := Below.chain hBA hbB
     have HSTB : Hid _ := hstB
     have HBB : Hid _ := hbB
     clear hstB hbB
     refine hK.out _ _ (HSS.out _ hBB) (fun _ => ?_)
     clear hK K
     refine take_at 17 (some 38) (.agg #[.slice xa xn xc, .pointer (some ⟨wA.heap.size, 0, none⟩)]) rfl rfl (by kernel_rfl) (by kernel_rfl) (by kernel_rfl) (fun _ _ _ h => h) (by rfl) (fun W hSw => by clear hSw; go_simp) (HSS.out _ hBB) ?_
     simp only [Act.put, List.setIfInBounds_toArray, List.set_cons_zero, List.set_cons_succ]
     refine wpAnyH_ready (rs := [18]) (by kernel_rfl) (by simp) ?_
     refine AllReadyH.cons rfl (fun K hK => ?_) AllReadyH.nil
     go_simp
     have hbC := bal (Below.refl wB.heap.size wB) (.cells #[.slice xa xn xc, .pointer (some ⟨wA.heap.size, 0, none⟩)] 74)
     have hBC := Below.chain hBB hbC
     have V0 : (wB.alloc (.cells #[.slice xa xn xc, .pointer (some ⟨wA.heap.size, 0, none⟩)] 74)).cell? ⟨wB.heap.size, 0, none⟩ = some (.slice xa xn xc) := by simp [go_sem]
     have V1 : (wB.alloc (.cells #[.slice xa xn xc, .pointer (some ⟨wA.heap.size, 0, none⟩)] 74)).cell? ⟨wB.heap.size, 1, none⟩ = some (.pointer (some ⟨wA.heap.size, 0, none⟩)) := by simp [go_sem]
     have HCP : Hid _ := cp_step (HX4.out wA hBA) (Below.chain HBB.out hbC) (HBW.out _ hBA).size (HBW.out _ hBC) (Nat.le_refl _) HK.out (by rw [hln]; exact HLT.out) (by omega) HRG.out (lab := .slice xa xn xc) (by rw [HRE.out]; exact HL.out) HQ.out (by rw [HRE.out]; exact HHT.out) (by rw [HRE.out, HLE.out]; exact HSTB.out.later hbC) V0 V1
     clear V0 V1 hbC
     generalize wB.heap.size = vb at *
     generalize wB.alloc (.cells #[.slice xa xn xc, .pointer (some ⟨wA.heap.size, 0, none⟩)] 74) = wC at *
     refine hK.out _ _ (HSS.out _ hBC) (fun _ => ?_)
     clear hK K
     refine wpAnyH_ready (rs := [19]) (by kernel_rfl) (by simp) ?_
     refine AllReadyH.cons rfl (fun K hK => ?_) AllReadyH.nil
     obtain ⟨ao', cap', w8, hrun, g1, g2, g3, hcp2⟩ := HCP.out
     obtain ⟨n1, n2, n3, n4⟩ := HNE.out
     obtain ⟨q0, q1, q2⟩ := HSS.out _ hBC
     have HCP2 : Hid _ := hcp2
     refine step_app69 (.tmp 25) (.tmp 39) _ rfl rfl rfl (by kernel_rfl) _ _ rfl rfl hrun ?_
     have s0 := g3 _ _ _ n1 q0
     have s1 := g3 _ _ _ n1 q1
     have s2 := g3 _ _ _ n2 q2
     clear q0 q1 q2 hcp2 hrun
     have hS8 : (fun W : World => W.cell? ⟨ob, 0, none⟩ = some (.slice xa xn xc) ∧ W.cell? ⟨ob, 1, none⟩ = some (.pointer (some ⟨rg, 0, none⟩)) ∧ W.cell? ⟨sb, 1, none⟩ = some (.int .i64 now)) w8 := ⟨s0, s1, s2⟩
     refine hK.out _ _ hS8 (fun _ => ?_)
     clear hK K
     refine take_at 20 (some 41) (.pointer (some ⟨w.heap.size, 0, none⟩)) rfl rfl (by kernel_rfl) (by kernel_rfl) (by kernel_rfl) (fun _ _ _ h => h) (by rfl) (fun W hSw => by clear hSw; go_simp) hS8 ?_
     simp only [Act.put, List.setIfInBounds_toArray]
     refine take_at 21 (some 42) (.pointer (some ⟨w.heap.size, 0, none⟩)) rfl rfl (by kernel_rfl) (by kernel_rfl) (by kernel_rfl) (fun _ _ _ h => h) (by rfl) (fun W hSw => by clear hSw; go_simp) hS8 ?_
     simp only [Act.put]
     refine wpAnyH_ready (rs := [22]) (by kernel_rfl) (by simp) ?_
     refine AllReadyH.cons rfl (fun K hK => ?_) AllReadyH.nil
     go_simp
     have gs := Rn.grown_set w8 w.heap.size 0 (.slice ao' (j + 1) cap')
     refine hK.out _ _ ⟨gs.cell s0 (fun e => n3 (by injection e)), gs.cell s1 (fun e => n3 (by injection e)), gs.cell s2 (fun e => n4 (by injection e))⟩ (fun _ => ?_)
     clear hK K gs s0 s1 s2 g1 g2 g3
     refine wpAnyH_done (by kernel_rfl) ?_ _
     refine NoPanic.normal ?_
     go_wp2
     go_roundw
     case rel => exact ⟨j + 1, by omega, by go_num, HCP2.out⟩
     case measure => simp [intOf]; omega
    ·
     skip
     go_simp
     refine (HRING.out _ ua uc HMS.out).mono ?_
     rintro e wB ⟨rfl, hstB, hbB⟩
     have hBB := Below.chain hBA hbB
     have HSTB : Hid _ := hstB
     have HBB : Hid _ := hbB
     clear hstB hbB
     refine hK.out _ _ (HSS.out _ hBB) (fun _ => ?_)
     clear hK K
     refine take_at 17 (some 38) (.agg #[.slice xa xn xc, .pointer (some ⟨wA.heap.size, 0, none⟩)]) rfl rfl (by kernel_rfl) (by kernel_rfl) (by kernel_rfl) (fun _ _ _ h => h) (by rfl) (fun W hSw => by clear hSw; go_simp) (HSS.out _ hBB) ?_
     simp only [Act.put, List.setIfInBounds_toArray, List.set_cons_zero, List.set_cons_succ]
     refine wpAnyH_ready (rs := [4, 18]) (by kernel_rfl) (by simp) ?_
     refine AllReadyH.cons rfl (fun K hK => ?_) (AllReadyH.cons rfl (fun K hK => ?_) AllReadyH.nil)
     ·
      skip
      have k0 := (HX4.out _ hBB).c0
      go_simp
      refine hK.out _ _ (HSS.out _ hBB) (fun _ => ?_)
      clear hK K k0
      refine wpAnyH_ready (rs := [18]) (by kernel_rfl) (by simp) ?_
      refine AllReadyH.cons rfl (fun K hK => ?_) AllReadyH.nil
      go_simp
      have hbC := bal (Below.refl wB.heap.size wB) (.cells #[.slice xa xn xc, .pointer (some ⟨wA.heap.size, 0, none⟩)] 74)
      have hBC := Below.chain hBB hbC
      have V0 : (wB.alloc (.cells #[.slice xa xn xc, .pointer (some ⟨wA.heap.size, 0, none⟩)] 74)).cell? ⟨wB.heap.size, 0, none⟩ = some (.slice xa xn xc) := by simp [go_sem]
      have V1 : (wB.alloc (.cells #[.slice xa xn xc, .pointer (some ⟨wA.heap.size, 0, none⟩)] 74)).cell? ⟨wB.heap.size, 1, none⟩ = some (.pointer (some ⟨wA.heap.size, 0, none⟩)) := by simp [go_sem]
      have HCP : Hid _ := cp_step (HX4.out wA hBA) (Below.chain HBB.out hbC) (HBW.out _ hBA).size (HBW.out _ hBC) (Nat.le_refl _) HK.out (by rw [hln]; exact HLT.out) (by omega) HRG.out (lab := .slice xa xn xc) (by rw [HRE.out]; exact HL.out) HQ.out (by rw [HRE.out]; exact HHT.out) (by rw [HRE.out, HLE.out]; exact HSTB.out.later hbC) V0 V1
      clear V0 V1 hbC
      generalize wB.heap.size = vb at *
      generalize wB.alloc (.cells #[.slice xa xn xc, .pointer (some ⟨wA.heap.size, 0, none⟩)] 74) = wC at *
      refine hK.out _ _ (HSS.out _ hBC) (fun _ => ?_)
      clear hK K
      refine wpAnyH_ready (rs := [19]) (by kernel_rfl) (by simp) ?_
      refine AllReadyH.cons rfl (fun K hK => ?_) AllReadyH.nil
      obtain ⟨ao', cap', w8, hrun, g1, g2, g3, hcp2⟩ := HCP.out
      obtain ⟨n1, n2, n3, n4⟩ := HNE.out
      obtain ⟨q0, q1, q2⟩ := HSS.out _ hBC
      have HCP2 : Hid _ := hcp2
      refine step_app69 (.tmp 25) (.tmp 39) _ rfl rfl rfl (by kernel_rfl) _ _ rfl rfl hrun ?_
      have s0 := g3 _ _ _ n1 q0
      have s1 := g3 _ _ _ n1 q1
      have s2 := g3 _ _ _ n2 q2
      clear q0 q1 q2 hcp2 hrun
      have hS8 : (fun W : World => W.cell? ⟨ob, 0, none⟩ = some (.slice xa xn xc) ∧ W.cell? ⟨ob, 1, none⟩ = some (.pointer (some ⟨rg, 0, none⟩)) ∧ W.cell? ⟨sb, 1, none⟩ = some (.int .i64 now)) w8 := ⟨s0, s1, s2⟩
      refine hK.out _ _ hS8 (fun _ => ?_)
      clear hK K
      refine take_at 20 (some 41) (.pointer (some ⟨w.heap.size, 0, none⟩)) rfl rfl (by kernel_rfl) (by kernel_rfl) (by kernel_rfl) (fun _ _ _ h => h) (by rfl) (fun W hSw => by clear hSw; go_simp) hS8 ?_
      simp only [Act.put, List.setIfInBounds_toArray]
      refine take_at 21 (some 42) (.pointer (some ⟨w.heap.size, 0, none⟩)) rfl rfl (by kernel_rfl) (by kernel_rfl) (by kernel_rfl) (fun _ _ _ h => h) (by rfl) (fun W hSw => by clear hSw; go_simp) hS8 ?_
      simp only [Act.put]
      refine wpAnyH_ready (rs := [22]) (by kernel_rfl) (by simp) ?_
      refine AllReadyH.cons rfl (fun K hK => ?_) AllReadyH.nil
      go_simp
      have gs := Rn.grown_set w8 w.heap.size 0 (.slice ao' (j + 1) cap')
      refine hK.out _ _ ⟨gs.cell s0 (fun e => n3 (by injection e)), gs.cell s1 (fun e => n3 (by injection e)), gs.cell s2 (fun e => n4 (by injection e))⟩ (fun _ => ?_)
      clear hK K gs s0 s1 s2 g1 g2 g3
      refine wpAnyH_done (by kernel_rfl) ?_ _
      refine NoPanic.normal ?_
      go_wp2
      go_roundw
      case rel => exact ⟨j + 1, by omega, by go_num, HCP2.out⟩
      case measure => simp [intOf]; omega
     ·
      skip
      go_simp
      have hbC := bal (Below.refl wB.heap.size wB) (.cells #[.slice xa xn xc, .pointer (some ⟨wA.heap.size, 0, none⟩)] 74)
      have hBC := Below.chain hBB hbC
      have V0 : (wB.alloc (.cells #[.slice xa xn xc, .pointer (some ⟨wA.heap.size, 0, none⟩)] 74)).cell? ⟨wB.heap.size, 0, none⟩ = some (.slice xa xn xc) := by simp [go_sem]
      have V1 : (wB.alloc (.cells #[.slice xa xn xc, .pointer (some ⟨wA.heap.size, 0, none⟩)] 74)).cell? ⟨wB.heap.size, 1, none⟩ = some (.pointer (some ⟨wA.heap.size, 0, none⟩)) := by simp [go_sem]
      have HCP : Hid _ := cp_step (HX4.out wA hBA) (Below.chain HBB.out hbC) (HBW.out _ hBA).size (HBW.out _ hBC) (Nat.le_refl _) HK.out (by rw [hln]; exact HLT.out) (by omega) HRG.out (lab := .slice xa xn xc) (by rw [HRE.out]; exact HL.out) HQ.out (by rw [HRE.out]; exact HHT.out) (by rw [HRE.out, HLE.out]; exact HSTB.out.later hbC) V0 V1
      clear V0 V1 hbC
      generalize wB.heap.size = vb at *
      generalize wB.alloc (.cells #[.slice xa xn xc, .pointer (some ⟨wA.heap.size, 0, none⟩)] 74) = wC at *
      refine hK.out _ _ (HSS.out _ hBC) (fun _ => ?_)
      clear hK K
      refine wpAnyH_ready (rs := [4]) (by kernel_rfl) (by simp) ?_
      refine AllReadyH.cons rfl (fun K hK => ?_) AllReadyH.nil
      ·
       skip
       have k0 := (HX4.out _ hBC).c0
       go_simp
       refine hK.out _ _ (HSS.out _ hBC) (fun _ => ?_)
       clear hK K k0
       refine wpAnyH_ready (rs := [19]) (by kernel_rfl) (by simp) ?_
       refine AllReadyH.cons rfl (fun K hK => ?_) AllReadyH.nil
       obtain ⟨ao', cap', w8, hrun, g1, g2, g3, hcp2⟩ := HCP.out
       obtain ⟨n1, n2, n3, n4⟩ := HNE.out
       obtain ⟨q0, q1, q2⟩ := HSS.out _ hBC
       have HCP2 : Hid _ := hcp2
       refine step_app69 (.tmp 25) (.tmp 39) _ rfl rfl rfl (by kernel_rfl) _ _ rfl rfl hrun ?_
       have s0 := g3 _ _ _ n1 q0
       have s1 := g3 _ _ _ n1 q1
       have s2 := g3 _ _ _ n2 q2
       clear q0 q1 q2 hcp2 hrun
       have hS8 : (fun W : World => W.cell? ⟨ob, 0, none⟩ = some (.slice xa xn xc) ∧ W.cell? ⟨ob, 1, none⟩ = some (.pointer (some ⟨rg, 0, none⟩)) ∧ W.cell? ⟨sb, 1, none⟩ = some (.int .i64 now)) w8 := ⟨s0, s1, s2⟩
       refine hK.out _ _ hS8 (fun _ => ?_)
       clear hK K
       refine take_at 20 (some 41) (.pointer (some ⟨w.heap.size, 0, none⟩)) rfl rfl (by kernel_rfl) (by kernel_rfl) (by kernel_rfl) (fun _ _ _ h => h) (by rfl) (fun W hSw => by clear hSw; go_simp) hS8 ?_
       simp only [Act.put, List.setIfInBounds_toArray]
       refine take_at 21 (some 42) (.pointer (some ⟨w.heap.size, 0, none⟩)) rfl rfl (by kernel_rfl) (by kernel_rfl) (by kernel_rfl) (fun _ _ _ h => h) (by rfl) (fun W hSw => by clear hSw; go_simp) hS8 ?_
       simp only [Act.put]
       refine wpAnyH_ready (rs := [22]) (by kernel_rfl) (by simp) ?_
       refine AllReadyH.cons rfl (fun K hK => ?_) AllReadyH.nil
       go_simp
       have gs := Rn.grown_set w8 w.heap.size 0 (.slice ao' (j + 1) cap')
       refine hK.out _ _ ⟨gs.cell s0 (fun e => n3 (by injection e)), gs.cell s1 (fun e => n3 (by injection e)), gs.cell s2 (fun e => n4 (by injection e))⟩ (fun _ => ?_)
       clear hK K gs s0 s1 s2 g1 g2 g3
       refine wpAnyH_done (by kernel_rfl) ?_ _
       refine NoPanic.normal ?_
       go_wp2
       go_roundw
       case rel => exact ⟨j + 1, by omega, by go_num, HCP2.out⟩
       case measure => simp [intOf]; omega
  ·
   obtain rfl : j = n := by omega
   have hd : decide ((j : Int) < (j : Int)) = false := decide_eq_false (by omega)
   go_wp2
   all_goals
    go_ret
    exact ⟨_, rfl, hst.out⟩
end Go.Proofs.YtjgckfcocmhnhaaGreatDoor.Sp
namespace Go.Proofs.YtjgckfcocmhnhaaGreatDoor.Sp
open Go.RowKit
theorem copy_s2 (sb : Nat) (now : Int) (F : Nat → Prop) (L : Sr.HL) (w : World) (h : Sr.So w sb now F L) (hnr : ∀ x ∈ L, ∀ s ∈ x.2, Rn.nrm s = s) :
  Calls Tryz.prog 16 #[.pointer (some ⟨sb, 0, none⟩)] w fun e w' => ∃ cb, e = .returned (.pointer (some ⟨cb, 0, none⟩)) ∧ Sr.S2 w w' cb now L (.slice none 0 0) [] := by
 obtain ⟨base, ao, n, cap, rs, hx, _, hrs, hst, _, h16, rfl, hn0, hn1⟩ := h
 refine (copy_walk sb now base ao n cap rs w hx (fun r hr => (hrs r hr).1) ⟨hn0, hn1⟩ h16 (fun r hr => hnr (Sr.pl r) (List.mem_map_of_mem hr))).mono ?_
 rintro e w' ⟨cb, rfl, aj, cj, rsj, hxj, hk, hrg, hcb, hbw⟩
 rw [List.take_of_length_le (by rw [hx.len]; exact Nat.le_refl _)] at hk
 have hmem : ∀ r ∈ rsj, ∃ x ∈ rs, ky x = ky r := fun r hr => by
  have : ky r ∈ rsj.map ky := List.mem_map_of_mem hr
  rw [hk] at this
  exact List.mem_map.1 this
 have hpl : rs.map Sr.pl = rsj.map Sr.pl := by
  have e : ∀ A : List Sr.SRec, A.map Sr.pl = (A.map ky).map (fun k => (k.2.1, k.2.2.1)) := fun A => by rw [List.map_map]; rfl
  rw [e rs, e rsj, hk]
 have hset : rs.map (·.set) = rsj.map (·.set) := by
  have e : ∀ A : List Sr.SRec, A.map (·.set) = (A.map ky).map (fun k => k.2.1) := fun A => by rw [List.map_map]; rfl
  rw [e rs, e rsj, hk]
 refine ⟨cb, rfl, fun k => w.heap.size ≤ k, ⟨w.heap.size, aj, n, cj, rsj, hxj, hbw.size, fun r hr => ?_, ?_, ?_, h16, hpl, hn0, hn1⟩, Sr.pq_nil w', fun g hg => by simp [Value.ownBlock] at hg, fun k hk => hk, hbw⟩
 ·
  obtain ⟨x, hx1, hx2⟩ := hmem r hr
  have := hrs x hx1
  unfold ky at hx2
  simp only [Prod.mk.injEq] at hx2
  obtain ⟨_, e2, e3, e4⟩ := hx2
  rw [← e2, ← e3, ← e4]
  exact this
 ·
  have h1 : (rs.map (·.set)).Pairwise (fun a b => Lb.fCmp a b < 0) := List.pairwise_map.2 hst
  rw [hset] at h1
  exact List.pairwise_map.1 h1
 ·
  rintro k (e | e | ⟨r, hr, e⟩)
  ·
   rw [e]; exact hcb
  ·
   exact (World.ownsRow.lt hxj.p k e).1
  ·
   rw [e]; exact hrg r hr
end Go.Proofs.YtjgckfcocmhnhaaGreatDoor.Sp
