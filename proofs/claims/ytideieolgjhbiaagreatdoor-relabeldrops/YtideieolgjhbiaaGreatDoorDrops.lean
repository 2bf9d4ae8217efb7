/- RelabelDrops: labels whose names match go, the others stay. -/
import Derived.Test.YtideieolgjhbiaaGreatDoorOwnR
import Derived.Deep.WholeRow
import Derived.Test.YtideieolgjhbiaaGreatDoorDropsP
namespace Go.Proofs.YtideieolgjhbiaaGreatDoor
open Go.RowKit

def goneV (ns : List UInt8) (k : Nat) : Value := .bool (goneB ns k)
def upN (ns : List UInt8) (j : Nat) : List UInt8 := ns.take j
theorem upN_succ {ns : List UInt8} {j : Nat} (h : j < ns.length) : upN ns (j + 1) = upN ns j ++ [ns.getD j 0] := by
  unfold upN
  rw [List.take_succ_eq_append_getElem h]
  simp [List.getD, List.getElem?_eq_getElem h]
theorem beq_of_bne {G : Str} {b : Bool} (h : (G != []) = b) : (G == []) = !b := by rw [← h, bne, Bool.not_not]
theorem few_nil (l : List Pr) : fewB l [] = decide (l.length ≤ 12) := by simp [fewB]
theorem dR_fit (x : UInt8) : FitR (dR x) := fit_k _ _ _ _ (by simp) (by simp) (by simp) (by simp)
abbrev f26 : Array Value := #[.bool false, .bool false, .bool false, .bool false, .bool false, .bool false, .bool false, .bool false, .bool false, .bool false, .bool false, .bool false, .bool false, .bool false, .bool false, .bool false, .bool false, .bool false, .bool false, .bool false, .bool false, .bool false, .bool false, .bool false, .bool false, .bool false]
theorem f26_row (w : World) : (w.alloc (.cells f26 42)).rowIs w.heap.size 42 26 (goneV []) := by
  refine ⟨f26, heap_alloc_new w _, rfl, fun i hi => ?_⟩
  match i, hi with
  | 0, _ | 1, _ | 2, _ | 3, _ | 4, _ | 5, _ | 6, _ | 7, _ | 8, _ | 9, _ | 10, _ | 11, _ | 12, _ | 13, _ | 14, _ | 15, _ | 16, _ | 17, _ | 18, _ | 19, _ | 20, _ | 21, _ | 22, _ | 23, _ | 24, _ | 25, _ => rfl
  | i + 26, h => omega

theorem wp_build42 {w : World} {ops : Array Oper} {rest : List Oper} {o : Oper} {a : Act} {Q : Exit → Act → World → Prop} (hgd : o.guard = none) (ho : o.op = .build 42 #[])
    (h : ∀ cs, Hid (cs = f26) → wpList Tryz.prog ops Q rest (a.put o.dst (.agg cs)) w) : wpList Tryz.prog ops Q (o :: rest) a w :=
  wpList_build hgd 42 #[] ho (by kernel_rfl) (h _ (show _ = _ by kernel_rfl))
theorem wp_store26 {w2 : World} {ops : Array Oper} {rest : List Oper} {o : Oper} {a : Act} {Q : Exit → Act → World → Prop} (hgd : o.guard = none) (x y : Operand) (ho : o.op = .store 42 x y) (cs : Array Value) (hcs : Hid (cs = f26))
    (hx : a.eval x = .pointer (some ⟨w2.heap.size, 0, none⟩)) (hy : a.eval y = .agg cs)
    (h : ∀ W, W.rowIs w2.heap.size 42 26 (goneV []) → Below w2.heap.size w2 W → W.heap.size = w2.heap.size + 1 → wpList Tryz.prog ops Q rest (a.put o.dst undef) W) : wpList Tryz.prog ops Q (o :: rest) a (w2.alloc (.cells f26 42)) := by
  have e := hcs.out
  subst e
  refine wpList_store_row hgd 42 x y ho w2.heap.size f26 hx hy 42 f26 (heap_alloc_new w2 _) (by kernel_rfl) rfl (by kernel_rfl) ?_
  rw [World.setRow_alloc_new]
  exact h _ (f26_row w2) (bal (Below.refl _ _) _) (size_alloc _ _)

set_option maxRecDepth 200000 in
set_option maxHeartbeats 4000000 in
theorem drops_any (xa : Option Addr) (n c : Nat) (l : List Pr) (ya : Option Addr) (m d : Nat) (ns : List UInt8) (w : World) (hn : n ≤ 9223372036854775807) (hmm : m ≤ 9223372036854775807) (hf : Fit l) (hx : Ps w xa n l) (hy : Ns w ya m ns) (hm : Mx w) :
    Calls Tryz.prog 6 #[.slice xa n c, .slice ya m d] w fun e w' => e = .returned (.bool true) ∧ Below w.heap.size w w' := by
  have hkn := known_any w hm
  have his := fun W (hW : Below w.heap.size w W) => is_any xa n c l W hn hf (hx.later hW)
  have hfw := fun W => few_any xa n c l none 0 0 [] W hn (by omega) (fun r hr => by cases hr) hx.1 ⟨rfl, fun h => by omega⟩
  rw [few_nil] at hfw
  cases hil : fIs l with
  | false =>
    rw [hil] at his
    clear hil hfw
    go_enter Tryz.func6, Tryz.ntmps6
    go_wp2_with fail
    refine hkn.mono ?_
    rintro e w1 ⟨rfl, hb1⟩
    go_wp2_with fail
    refine (his _ hb1).mono ?_
    rintro e w2 ⟨rfl, hb2⟩
    go_wp2_with fail
    go_ret
    exact ⟨rfl, Below.chain hb1 hb2⟩
  | true =>
  rw [hil] at his
  have HIL : Hid _ := hil
  have hl8 := (is_short hil).1
  rw [decide_eq_true (by omega)] at hfw
  clear hil
  by_cases h6 : m ≤ 6
  · have t6 : ¬ (6 : Int) < m := by omega
    have HXN : Hid (l.length = n) := hx.1
    have hn8 : n ≤ 8 := by rw [← HXN.out]; exact hl8
    obtain ⟨hlen, hcell⟩ := hy
    have HL : Hid (ns.length = m) := hlen
    clear hlen
    go_enter Tryz.func6, Tryz.ntmps6
    go_wp2_with fail
    refine hkn.mono ?_
    rintro e w1 ⟨rfl, hb1⟩
    go_wp2_with fail
    refine (his _ hb1).mono ?_
    rintro e w2 ⟨rfl, hb2⟩
    have B2 := Below.chain hb1 hb2
    go_wp2_with fail
    refine (hfw _).mono ?_
    rintro e w2' ⟨rfl, rfl⟩
    clear hkn his hfw hb1 hb2
    go_wp2_with (first | (refine wp_build42 rfl rfl ?_; intro cs hcs) | (refine wp_store26 (w2 := w2) rfl _ _ rfl cs hcs rfl rfl ?_; intro w3 hrow hb3 hz3))
    have B3 := Below.chain B2 hb3
    have hg2 := B2.size
    have HR0 : Hid _ := hrow
    clear hrow B2 hb3
    generalize w2.heap.size = g at *
    go_loopw [7, 5] (fun i u W => ∃ (j : Nat) (v : Value) (out : List Rl), j ≤ m ∧ i = .int .i64 j ∧ v = u ∧ OwnR W (g + 1) v out ∧ Hid (out = (upN ns j).map dR) ∧ Hid (W.rowIs g 42 26 (goneV (upN ns j))) ∧ out.length ≤ j ∧ Below w.heap.size w W ∧ g + 1 ≤ W.heap.size) (fun i _ _ => m - (intOf i).toNat)
    case atStart => exact ⟨0, _, [], by omega, rfl, rfl, OwnR.none _ _, rfl, HR0, Nat.le_refl _, B3, by omega⟩
    case round =>
      obtain ⟨j, v, out, hj, rfl, rfl, ho, HO, HR, hol, hbr, hgr⟩ := hrel
      clear HR0 B3 hz3
      by_cases hlt : j < m
      · obtain ⟨b, off, rfl, hc⟩ := hcell (by omega)
        have hc0 := hc j hlt
        have hbb : b < w.heap.size := World.block_lt_of_cell? _ _ hc0
        have k0 := (hbr.cell (p := ⟨b, off + j, none⟩) hbb).trans hc0
        have hlt' : j < ns.length := by rw [HL.out]; exact hlt
        have HU : Hid _ := upN_succ hlt'
        clear hc hcell hc0 hlt'
        generalize ns.getD j 0 = x at *
        obtain ⟨K, hK⟩ : ∃ K, x.toNat % 26 = K := ⟨_, rfl⟩
        have hK26 : K < 26 := by omega
        have hKr : ((x.toNat : Nat) : Int) % 26 = (K : Int) := by omega
        have hds : (dS x).toNat = 97 + K := by rw [dS_nat, hK]
        have hKl : (K : Int) < 26 := by omega
        have hw8 : IntKind.u8.wrap (97 + (K : Int)) = ((dS x).toNat : Int) := by rw [hds]; simp [IntKind.wrap, IntKind.bits, IntKind.signed]; omega
        have hdk := HR.out.cell hK26
        have hdf := HR.out.frozen K
        unfold goneV at hdk
        have HR1 : Hid ((wr.setCell ⟨g, K, none⟩ (.bool true)).rowIs g 42 26 (goneV (upN ns (j + 1)))) := by
          refine (HR.out.set K (.bool true)).congr fun i hi => ?_
          unfold goneV
          rw [HU.out, goneB_snoc, hK]
          by_cases h : i = K
          · rw [if_pos h, h]; simp
          · rw [if_neg h, decide_eq_false (fun e => h e.symm), Bool.or_false]
        have HO1 : Hid (out ++ [dR x] = (upN ns (j + 1)).map dR) := by show _ = _; rw [HO.out, HU.out, List.map_append]; rfl
        have ho1 : OwnR (wr.setCell ⟨g, K, none⟩ (.bool true)) (g + 1) v out := ho.same fun q hq _ => heap_setCell_other wr ⟨g, K, none⟩ q (.bool true) (by show q ≠ g; omega)
        have hB1 : Below w.heap.size w (wr.setCell ⟨g, K, none⟩ (.bool true)) := hbr.setCell (p := ⟨g, K, none⟩) hg2 (.bool true)
        have hsz1 : (wr.setCell ⟨g, K, none⟩ (.bool true)).heap.size = wr.heap.size := by simp [World.setCell]
        have k1 : (wr.setCell ⟨g, K, none⟩ (.bool true)).cell? ⟨b, off + j, none⟩ = some (.int .u8 x.toNat) := by
          have := hB1.cell (p := ⟨b, off + j, none⟩) hbb
          rw [this, ← hbr.cell (p := ⟨b, off + j, none⟩) hbb]
          exact k0
        clear HR HO ho hbr HU hds hK
        have hcw : ((wr.setCell ⟨g, K, none⟩ (.bool true)).alloc (.cells #[.int .u8 ((dS x).toNat : Int)] 5)).cell? ⟨wr.heap.size, 0, none⟩ = some (.int .u8 ((dS x).toNat : Int)) := by
          have h := World.cell?_alloc_new (wr.setCell ⟨g, K, none⟩ (.bool true)) #[.int .u8 ((dS x).toNat : Int)] 5 0
          rw [hsz1] at h
          exact h
        have hcv : (convert 41 9 (.slice (some ⟨wr.heap.size, 0, none⟩) 1 1)).run Tryz.prog ((wr.setCell ⟨g, K, none⟩ (.bool true)).alloc (.cells #[.int .u8 ((dS x).toNat : Int)] 5)) = .ok (tx [dS x]) ((wr.setCell ⟨g, K, none⟩ (.bool true)).alloc (.cells #[.int .u8 ((dS x).toNat : Int)] 5)) :=
          run_convert_bytes_back _ 41 9 5 ⟨wr.heap.size, 0, none⟩ 1 [dS x] Tryz.underlying41 Tryz.underlying5 Tryz.underlying9 (fun i hi => by
            have hi0 : i = 0 := by simpa using hi
            subst hi0
            rw [Addr.add_lit]
            exact hcw)
        have a1 : (⟨[dS x].toArray⟩ : ByteArray) ++ ⟨#[42]⟩ = ⟨[dS x, 42].toArray⟩ := ba_append [dS x] [42]
        have hBa := bal hB1 (.cells #[.int .u8 ((dS x).toNat : Int)] 5)
        have hB2 := bal hBa (cR (dR x))
        have ho2 := (ho1.later (bal (Below.refl _ _) (.cells #[.int .u8 ((dS x).toNat : Int)] 5))).later (bal (Below.refl _ _) (cR (dR x)))
        have HR2 : Hid _ := (HR1.out.alloc (.cells #[.int .u8 ((dS x).toNat : Int)] 5)).alloc (cR (dR x))
        have hbx := BoxR.new ((wr.setCell ⟨g, K, none⟩ (.bool true)).alloc (.cells #[.int .u8 ((dS x).toNat : Int)] 5)) (dR x)
        rw [size_alloc, hsz1] at hbx
        have hgz : g + 1 ≤ (((wr.setCell ⟨g, K, none⟩ (.bool true)).alloc (.cells #[.int .u8 ((dS x).toNat : Int)] 5)).alloc (cR (dR x))).heap.size := by rw [size_alloc, size_alloc, hsz1]; omega
        clear HR1 ho1 hBa hB1 hcw
        go_wp2_with (at_builtin; go_must (refine wp_appR rfl _ _ rfl (g + 1) v out (dR x) (wr.heap.size + 1) rfl rfl ho2 hbx (Below.refl _ _) hgz (by omega) ?_; intro v7 w7 o7 b7))
        have HR7 : Hid (w7.rowIs g 42 26 (goneV (upN ns (j + 1)))) := World.rowIs.of_block HR2.out (b7.block g (by omega))
        have hB7 := hB2.trans (b7.mono (by omega))
        have hz7 := Nat.le_trans hgz b7.size
        clear HR2 hB2 hbx ho2 b7 hgz
        go_wp2_with fail
        go_roundw
        case rel => exact ⟨j + 1, v7, _, by omega, by go_num, rfl, o7, HO1, HR7, by simp; omega, hB7, hz7⟩
        case measure => simp [intOf]; omega
      · have hjm : j = m := by omega
        have HN : Hid (upN ns j = ns) := by show _ = _; unfold upN; exact List.take_of_length_le (by rw [HL.out]; omega)
        rw [HN.out] at HO HR
        have HF : Hid _ := drops_ap HIL.out ns
        obtain ⟨ao, cap, rfl, hrs, _⟩ := ho.slice
        have hfr : FitRs out := fun r hr => by
          rw [HO.out] at hr
          obtain ⟨x, _, rfl⟩ := List.mem_map.1 hr
          exact dR_fit x
        have hap := apply_any xa n c l ao out.length cap out wr (by omega) (by omega) hf hfr (hx.later hbr) hrs (hm.later hbr)
        have HF2 : Hid (fApply l out = (l.filter (surv ns), true, 0)) := by show _ = _; rw [HO.out]; exact HF.out
        rw [HF2.out] at hap
        have hol8 : out.length ≤ 6 := by omega
        generalize out.length = N at *
        clear HO HN HF HF2 hrs hfr ho hjm hol
        go_wp2_with fail
        refine hap.mono ?_
        rintro e w5 ⟨ao5, N5, cap5, rfl, hps5, hb5'⟩
        have HR5 : Hid (w5.rowIs g 42 26 (goneV ns)) := World.rowIs.of_block HR.out (hb5'.block g (by omega))
        have hb5 := Below.chain hbr hb5'
        have hg5 : g < w5.heap.size := HR5.out.lt

        have hget0 := fun W (hW : Below w5.heap.size w5 W) (s : Str) => get_any ao5 N5 cap5 (l.filter (surv ns)) s W (by rw [← hps5.1]; exact Nat.le_trans (List.length_filter_le _ _) (by omega)) (hps5.later hW)
        have HN5 : Hid ((l.filter (surv ns)).length = N5) := hps5.1
        have HNM : Hid (∀ p ∈ l, fName p.1 = true) := fun p hp => (((is_iff l).1 HIL.out).2.1 p hp).1
        have HGet : Hid (∀ j, j < l.length → (fGet (l.filter (surv ns)) (l.getD j ([], [])).1 != []) = surv ns (l.getD j ([], []))) := fun j hj => drops_get HIL.out ns hj
        obtain ⟨_, hcx⟩ := hx
        clear hap hps5 HR hbr hcell hb5' hf
        go_wp2_with fail
        go_loopw [12, 11] (fun i u W => ∃ (j k : Nat), j ≤ n ∧ i = .int .i64 j ∧ u = .int .i64 k ∧ Hid (k = ((l.take j).filter (surv ns)).length) ∧ k ≤ j ∧ Below w5.heap.size w5 W) (fun i _ _ => n - (intOf i).toNat)
        case atStart => exact ⟨0, 0, by omega, rfl, rfl, rfl, Nat.le_refl _, Below.refl _ _⟩
        case round =>
          obtain ⟨j, k, hj, rfl, rfl, HK, hkj, hbr⟩ := hrel
          by_cases hlt2 : j < n
          · obtain ⟨b, off, rfl, hc⟩ := hcx (by omega)
            have hB := Below.chain hb5 hbr
            have hc0 := (hc j hlt2).1
            have k0 := (hB.cell (p := ⟨b, off + j * 2, none⟩) (World.block_lt_of_cell? _ _ hc0)).trans hc0
            have hlt' : j < l.length := by rw [HXN.out]; exact hlt2
            have hmem : l.getD j ([], []) ∈ l := by rw [getD_at hlt']; exact List.getElem_mem hlt'
            have hnm := HNM.out _ hmem
            have HFy : Hid _ := take_filter_yes (f := surv ns) hlt'
            have HFn : Hid _ := take_filter_no (f := surv ns) hlt'
            have HG0 : Hid _ := HGet.out j hlt'
            have HS0 : Hid (surv ns (l.getD j ([], [])) = (decide ((l.getD j ([], [])).1 = nm) || decide (((l.getD j ([], [])).1.headD 0).toNat < 97) || decide (122 < ((l.getD j ([], [])).1.headD 0).toNat) || !goneB ns (((l.getD j ([], [])).1.headD 0).toNat - 97))) := rfl
            have hget := hget0 wr hbr (l.getD j ([], [])).1
            clear hc hcx hc0 hlt' hmem HNM HGet hget0 hB
            generalize l.getD j ([], []) = p at *
            obtain ⟨p1, p2⟩ := p
            dsimp only at *
            obtain ⟨ch, tl, hp1⟩ : ∃ ch tl, p1 = ch :: tl := by
              cases p1 with
              | nil => exact absurd rfl (name_ne hnm)
              | cons ch tl => exact ⟨ch, tl, rfl⟩
            have h0l : 0 < p1.length := by rw [hp1]; simp
            have hb0 := ba_lt h0l
            have HC : Hid (((⟨p1.toArray⟩ : ByteArray)[0]'hb0) = p1.headD 0) := by
              subst hp1; rfl
            obtain ⟨C, hC⟩ : ∃ C : Nat, ((⟨p1.toArray⟩ : ByteArray)[0]'hb0).toNat = C := ⟨_, rfl⟩
            rw [← HC.out, hC] at HS0
            have hix : (0 : Int) < p1.length := by omega
            have hC256 : C < 256 := by rw [← hC]; exact UInt8.toNat_lt _
            generalize fGet (l.filter (surv ns)) p1 = G at *
            generalize hsvv : surv ns (p1, p2) = sv at *
            clear hp1 hnm HC
            by_cases he : p1 = nm
            · have he1 : (p1 == [95, 95, 110, 97, 109, 101, 95, 95]) = true := beq_iff_eq.2 he
              have hsv : sv = true := by rw [HS0.out, decide_eq_true he]; rfl
              subst hsv
              have HT : Hid ((k + 1 : Nat) = ((l.take (j + 1)).filter (surv ns)).length) := by show _ = _; rw [HFy.out rfl, List.length_append, ← HK.out]; rfl
              have hGG : (G != []) = true := HG0.out
              have hGE : (G == []) = false := beq_of_bne hGG
              clear HFy HFn HG0 HS0 hsvv HK he
              go_wp2_with fail
              refine hget.mono ?_
              rintro e w6 ⟨rfl, hb6⟩
              go_wp2_with fail
              go_roundw
              case rel => exact ⟨j + 1, k + 1, by omega, by go_num, by go_num, HT, by omega, Below.chain hbr hb6⟩
              case measure => simp [intOf]; omega
            · have he1 : (p1 == [95, 95, 110, 97, 109, 101, 95, 95]) = false := beq_eq_false_iff_ne.2 he
              by_cases h97 : C < 97
              · have t97 : (C : Int) < 97 := by omega
                have hsv : sv = true := by rw [HS0.out, decide_eq_true h97]; simp
                subst hsv
                have HT : Hid ((k + 1 : Nat) = ((l.take (j + 1)).filter (surv ns)).length) := by show _ = _; rw [HFy.out rfl, List.length_append, ← HK.out]; rfl
                have hGG : (G != []) = true := HG0.out
                have hGE : (G == []) = false := beq_of_bne hGG
                clear HFy HFn HG0 HS0 hsvv HK he
                go_wp2_with fail
                refine hget.mono ?_
                rintro e w6 ⟨rfl, hb6⟩
                go_wp2_with fail
                go_roundw
                case rel => exact ⟨j + 1, k + 1, by omega, by go_num, by go_num, HT, by omega, Below.chain hbr hb6⟩
                case measure => simp [intOf]; omega
              · have t97 : ¬ (C : Int) < 97 := by omega
                by_cases h122 : 122 < C
                · have t122 : (122 : Int) < C := by omega
                  have hsv : sv = true := by rw [HS0.out, decide_eq_true h122]; simp
                  subst hsv
                  have HT : Hid ((k + 1 : Nat) = ((l.take (j + 1)).filter (surv ns)).length) := by show _ = _; rw [HFy.out rfl, List.length_append, ← HK.out]; rfl
                  have hGG : (G != []) = true := HG0.out
                  have hGE : (G == []) = false := beq_of_bne hGG
                  clear HFy HFn HG0 HS0 hsvv HK he
                  go_wp2_with fail
                  refine hget.mono ?_
                  rintro e w6 ⟨rfl, hb6⟩
                  go_wp2_with fail
                  go_roundw
                  case rel => exact ⟨j + 1, k + 1, by omega, by go_num, by go_num, HT, by omega, Below.chain hbr hb6⟩
                  case measure => simp [intOf]; omega
                · have t122 : ¬ (122 : Int) < C := by omega
                  obtain ⟨K, hK⟩ : ∃ K, C - 97 = K := ⟨_, rfl⟩
                  have hK26 : K < 26 := by omega
                  have hKw : IntKind.u8.wrap ((C : Int) - 97) = (K : Int) := by rw [IntKind.wrap_u8]; omega
                  have hKl : (K : Int) < 26 := by omega
                  have hrK := World.rowIs.cell (World.rowIs.of_block HR5.out (hbr.block g hg5)) hK26
                  unfold goneV at hrK
                  cases hgn : goneB ns K with
                  | true =>
                    rw [hgn] at hrK
                    have hsv : sv = false := by rw [HS0.out, hK, hgn, decide_eq_false he, decide_eq_false h97, decide_eq_false h122]; rfl
                    subst hsv
                    have HT : Hid ((k : Nat) = ((l.take (j + 1)).filter (surv ns)).length) := by show _ = _; rw [HFn.out rfl, ← HK.out]
                    have hGG : (G != []) = false := HG0.out
                    have hGE : (G == []) = true := beq_of_bne hGG
                    clear HFy HFn HG0 HS0 hsvv HK he
                    go_wp2_with fail
                    refine hget.mono ?_
                    rintro e w6 ⟨rfl, hb6⟩
                    go_wp2_with fail
                    go_roundw
                    case rel => exact ⟨j + 1, k, by omega, by go_num, rfl, HT, by omega, Below.chain hbr hb6⟩
                    case measure => simp [intOf]; omega
                  | false =>
                    rw [hgn] at hrK
                    have hsv : sv = true := by rw [HS0.out, hK, hgn]; simp
                    subst hsv
                    have HT : Hid ((k + 1 : Nat) = ((l.take (j + 1)).filter (surv ns)).length) := by show _ = _; rw [HFy.out rfl, List.length_append, ← HK.out]; rfl
                    have hGG : (G != []) = true := HG0.out
                    have hGE : (G == []) = false := beq_of_bne hGG
                    clear HFy HFn HG0 HS0 hsvv HK he
                    go_wp2_with fail
                    refine hget.mono ?_
                    rintro e w6 ⟨rfl, hb6⟩
                    go_wp2_with fail
                    go_roundw
                    case rel => exact ⟨j + 1, k + 1, by omega, by go_num, by go_num, HT, by omega, Below.chain hbr hb6⟩
                    case measure => simp [intOf]; omega
          · have HEND : Hid (k = N5) := by
              show _ = _
              rw [HK.out, List.take_of_length_le (by rw [HXN.out]; omega), HN5.out]
            have hEN : ((N5 : Int) == (k : Int)) = true := by rw [beq_iff_eq, HEND.out]
            clear HK HEND
            go_wp2_with fail
            go_ret
            exact ⟨rfl, Below.chain hb5 hbr⟩
  · have t6 : (6 : Int) < m := by omega
    clear hfw
    go_enter Tryz.func6, Tryz.ntmps6
    go_wp2_with fail
    refine hkn.mono ?_
    rintro e w1 ⟨rfl, hb1⟩
    go_wp2_with fail
    refine (his _ hb1).mono ?_
    rintro e w2 ⟨rfl, hb2⟩
    go_wp2_with fail
    go_ret
    exact ⟨rfl, Below.chain hb1 hb2⟩
end Go.Proofs.YtideieolgjhbiaaGreatDoor
