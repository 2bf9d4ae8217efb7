/- ExpoKinds: a metric is of the kind that was told last ahead of it; other metrics aren't touched. -/
import Derived.Test.YtcbjhfnlhpallaaGreatDoorEInts
import Derived.Test.YtcbjhfnlhpallaaGreatDoorEOpen
namespace Go.Proofs.YtcbjhfnlhpallaaGreatDoor
open Go.RowKit

/-! ### Plain -/
def mName (m : Nat) : Str := [UInt8.ofNat (97 + m)]
def lineK (n : Nat) : Str := if n / 3 % 2 = 0 then kLine (mName (n % 3)) ((n / 6 % 3 : Nat) : Int) else mName (n % 3) ++ [32, 49]
theorem mName_name {m : Nat} (h : m < 3) : fName (mName m) = true := by
  have : m = 0 ∨ m = 1 ∨ m = 2 := by omega
  rcases this with rfl | rfl | rfl <;> decide
theorem one_line {m : Nat} (h : m < 3) : lineE (mName m ++ [32, 49]) = 0 ∧ mname (lineS (mName m ++ [32, 49])) = mName m := by
  have : m = 0 ∨ m = 1 ∨ m = 2 := by omega
  rcases this with rfl | rfl | rfl <;> exact ⟨by decide +kernel, by decide +kernel⟩
theorem step_tell {n : Nat} (h : n / 3 % 2 = 0) (st : St) (i : Nat) : stepL st i (lineK n) = ⟨upd st.k (mName (n % 3)) ((n / 6 % 3 : Nat) : Int), st.out, st.bad⟩ := by
  unfold lineK
  rw [if_pos h]
  exact step_kLine st i (mName_name (Nat.mod_lt _ (by decide))) (by have := Nat.mod_lt (n / 6) (show 0 < 3 by decide); omega)
theorem step_one {n : Nat} (h : ¬ n / 3 % 2 = 0) (st : St) (i : Nat) : ∃ X, stepL st i (lineK n) = ⟨st.k, st.out ++ [setK X (st.k (mName (n % 3)))], st.bad⟩ := by
  unfold lineK
  rw [if_neg h]
  have hm : n % 3 < 3 := Nat.mod_lt _ (by decide)
  obtain ⟨e1, e2⟩ := one_line hm
  have hh := name_head (mName_name hm) [32, 49]
  exact ⟨_, by rw [step_good hh.2 hh.1 e1, e2]⟩
theorem lineK_no10 (n : Nat) : 10 ∉ lineK n := by
  unfold lineK
  have hm : n % 3 < 3 := Nat.mod_lt _ (by decide)
  split
  · exact kLine_no10 (mName_name hm) _
  · have := name_no10 (mName_name hm)
    simp [this]
theorem kwd_len (k : Int) : (kwd k).length ≤ 7 := by
  unfold kwd
  split
  · decide
  · split
    · decide
    · split <;> decide
theorem lineK_len (n : Nat) : (lineK n).length ≤ 16 := by
  unfold lineK
  split
  · have := kwd_len ((n / 6 % 3 : Nat) : Int)
    simp only [kLine, mName, List.length_append, List.length_cons, List.length_nil]
    omega
  · simp [mName]
def bodyK (l : List UInt8) (j : Nat) : Str := ended ((l.take j).map fun c => lineK c.toNat)
def stK (l : List UInt8) (j : Nat) : St := runL st0 1 ((l.take j).map fun c => lineK c.toNat)
theorem ended_len : ∀ (l : List Str) (b : Nat), (∀ a ∈ l, a.length ≤ b) → (ended l).length ≤ l.length * (b + 1)
  | [], b, _ => by simp [ended]
  | a :: l, b, h => by
    rw [ended_cons, List.length_append, List.length_cons, List.length_cons, Nat.add_mul]
    have h1 := h a (by simp)
    have h2 := ended_len l b (fun x hx => h x (by simp [hx]))
    omega
theorem bodyK_len (l : List UInt8) (j : Nat) : (bodyK l j).length ≤ j * 17 := by
  unfold bodyK
  refine Nat.le_trans (ended_len _ 16 ?_) (Nat.mul_le_mul_right _ (by simp; omega))
  intro a ha
  obtain ⟨c, _, rfl⟩ := List.mem_map.1 ha
  exact lineK_len _
theorem bodyK_succ {l : List UInt8} {j : Nat} (h : j < l.length) : bodyK l (j + 1) = bodyK l j ++ (lineK (l.getD j 0).toNat ++ [10]) := by
  unfold bodyK
  rw [List.take_succ_eq_append_getElem h, List.map_append, ended_append]
  simp [ended, List.getD, List.getElem?_eq_getElem h]
theorem stK_succ {l : List UInt8} {j : Nat} (h : j < l.length) : stK l (j + 1) = stepL (stK l j) (1 + j) (lineK (l.getD j 0).toNat) := by
  unfold stK
  rw [List.take_succ_eq_append_getElem h, List.map_append]
  show runL st0 1 (_ ++ [_]) = _
  rw [runL_snoc]
  congr 1
  · simp; omega
  · simp [List.getD, List.getElem?_eq_getElem h]
theorem stK_body {l : List UInt8} (h : l.length ≤ 40) : bodyS (bodyK l l.length) = stK l l.length := by
  have hb := bodyK_len l l.length
  unfold bodyK at *
  exact body_ended (by
    intro a ha
    obtain ⟨c, _, rfl⟩ := List.mem_map.1 ha
    exact lineK_no10 _) (by omega)
def kindsOf (st : St) : List Int := st.out.map (·.kind)
theorem kinds_tell {l : List UInt8} {j : Nat} (h : j < l.length) (hk : (l.getD j 0).toNat / 3 % 2 = 0) : kindsOf (stK l (j + 1)) = kindsOf (stK l j) ∧ (stK l (j + 1)).bad = (stK l j).bad ∧ (stK l (j + 1)).k = upd (stK l j).k (mName ((l.getD j 0).toNat % 3)) (((l.getD j 0).toNat / 6 % 3 : Nat) : Int) := by
  rw [stK_succ h, step_tell hk]
  exact ⟨rfl, rfl, rfl⟩
theorem kinds_one {l : List UInt8} {j : Nat} (h : j < l.length) (hk : ¬ (l.getD j 0).toNat / 3 % 2 = 0) : kindsOf (stK l (j + 1)) = kindsOf (stK l j) ++ [(stK l j).k (mName ((l.getD j 0).toNat % 3))] ∧ (stK l (j + 1)).bad = (stK l j).bad ∧ (stK l (j + 1)).k = (stK l j).k := by
  rw [stK_succ h]
  obtain ⟨X, hX⟩ := step_one hk (stK l j) (1 + j)
  rw [hX]
  exact ⟨by simp [kindsOf, setK], rfl, rfl⟩
theorem kinds_len (l : List UInt8) : ∀ j, (kindsOf (stK l j)).length ≤ j := by
  intro j
  induction j with
  | zero => simp [stK, kindsOf, runL, st0]
  | succ j ih =>
    by_cases h : j < l.length
    · by_cases hk : (l.getD j 0).toNat / 3 % 2 = 0
      · rw [(kinds_tell h hk).1]; omega
      · rw [(kinds_one h hk).1]; simp; omega
    · have : l.take (j + 1) = l.take j := by rw [List.take_of_length_le (by omega), List.take_of_length_le (by omega)]
      have e : stK l (j + 1) = stK l j := by unfold stK; rw [this]
      rw [e]; omega
theorem bad_none (l : List UInt8) : ∀ j, j ≤ l.length → (stK l j).bad = [] := by
  intro j
  induction j with
  | zero => intro _; simp [stK, runL, st0]
  | succ j ih =>
    intro h
    by_cases hk : (l.getD j 0).toNat / 3 % 2 = 0
    · rw [(kinds_tell (by omega) hk).2.1]; exact ih (by omega)
    · rw [(kinds_one (by omega) hk).2.1]; exact ih (by omega)

/-! ### The law -/
def bodyB (s : Str) : Nat := s.length
structure Kb (w : World) (b : Nat) (k : Str → Int) : Prop where
  c0 : w.cell? ⟨b, 0, none⟩ = some (.int .i64 (k (mName 0)))
  c1 : w.cell? ⟨b, 1, none⟩ = some (.int .i64 (k (mName 1)))
  c2 : w.cell? ⟨b, 2, none⟩ = some (.int .i64 (k (mName 2)))
  f0 : w.frozen? ⟨b, 0, none⟩ = false
  f1 : w.frozen? ⟨b, 1, none⟩ = false
  f2 : w.frozen? ⟨b, 2, none⟩ = false
  n0 : w.cell? ⟨b + 1, 0, none⟩ = some (tx (kwd 0))
  n1 : w.cell? ⟨b + 1, 1, none⟩ = some (tx (kwd 1))
  n2 : w.cell? ⟨b + 1, 2, none⟩ = some (tx (kwd 2))
theorem Kb.kept {w w' : World} {row : Option Nat} {b : Nat} {k : Str → Int} (h : Kb w b k) (hg : w.grownBy w' row) (h1 : some b ≠ row) (h2 : some (b + 1) ≠ row) : Kb w' b k := by
  have hl : b < w.heap.size := World.block_lt_of_cell? _ _ h.c0
  exact ⟨grown_cell hg h.c0 h1, grown_cell hg h.c1 h1, grown_cell hg h.c2 h1, grown_frozen hg hl h.f0 h1, grown_frozen hg hl h.f1 h1, grown_frozen hg hl h.f2 h1, grown_cell hg h.n0 h2, grown_cell hg h.n1 h2, grown_cell hg h.n2 h2⟩
theorem Kb.later {w w' : World} {b : Nat} {k : Str → Int} (h : Kb w b k) (hb : Below w.heap.size w w') : Kb w' b k := h.kept (grown_below hb none) (by simp) (by simp)
theorem upd_ne {k : Str → Int} {a b : Str} (h : b ≠ a) (x : Int) : upd k a x b = k b := by unfold upd; rw [if_neg h]
theorem upd_eq (k : Str → Int) (a : Str) (x : Int) : upd k a x a = x := by unfold upd; rw [if_pos rfl]
theorem Kb.put0 {w : World} {b : Nat} {k : Str → Int} (h : Kb w b k) (x : Int) : Kb (w.setCell ⟨b, 0, none⟩ (.int .i64 x)) b (upd k (mName 0) x) := by
  have hg := grown_set w b 0 (.int .i64 x)
  refine ⟨?_, ?_, ?_, by simpa using h.f0, by simpa using h.f1, by simpa using h.f2, grown_cell hg h.n0 (by simp), grown_cell hg h.n1 (by simp), grown_cell hg h.n2 (by simp)⟩
  · rw [upd_eq]; exact World.cell?_setCell_same' _ _ _ (by rw [h.c0]; rfl)
  · rw [upd_ne (by decide), World.cell?_setCell_other _ _ _ _ (by intro e; cases e)]; exact h.c1
  · rw [upd_ne (by decide), World.cell?_setCell_other _ _ _ _ (by intro e; cases e)]; exact h.c2
theorem Kb.put1 {w : World} {b : Nat} {k : Str → Int} (h : Kb w b k) (x : Int) : Kb (w.setCell ⟨b, 1, none⟩ (.int .i64 x)) b (upd k (mName 1) x) := by
  have hg := grown_set w b 1 (.int .i64 x)
  refine ⟨?_, ?_, ?_, by simpa using h.f0, by simpa using h.f1, by simpa using h.f2, grown_cell hg h.n0 (by simp), grown_cell hg h.n1 (by simp), grown_cell hg h.n2 (by simp)⟩
  · rw [upd_ne (by decide), World.cell?_setCell_other _ _ _ _ (by intro e; cases e)]; exact h.c0
  · rw [upd_eq]; exact World.cell?_setCell_same' _ _ _ (by rw [h.c1]; rfl)
  · rw [upd_ne (by decide), World.cell?_setCell_other _ _ _ _ (by intro e; cases e)]; exact h.c2
theorem Kb.put2 {w : World} {b : Nat} {k : Str → Int} (h : Kb w b k) (x : Int) : Kb (w.setCell ⟨b, 2, none⟩ (.int .i64 x)) b (upd k (mName 2) x) := by
  have hg := grown_set w b 2 (.int .i64 x)
  refine ⟨?_, ?_, ?_, by simpa using h.f0, by simpa using h.f1, by simpa using h.f2, grown_cell hg h.n0 (by simp), grown_cell hg h.n1 (by simp), grown_cell hg h.n2 (by simp)⟩
  · rw [upd_ne (by decide), World.cell?_setCell_other _ _ _ _ (by intro e; cases e)]; exact h.c0
  · rw [upd_ne (by decide), World.cell?_setCell_other _ _ _ _ (by intro e; cases e)]; exact h.c1
  · rw [upd_eq]; exact World.cell?_setCell_same' _ _ _ (by rw [h.c2]; rfl)
theorem Kb.made (w : World) : Kb ((w.alloc (.cells #[.int .i64 0, .int .i64 0, .int .i64 0] 61)).alloc (.cells #[tx (kwd 0), tx (kwd 1), tx (kwd 2)] 62)) w.heap.size (fun _ => 0) := by
  have hb := bal (Below.refl _ (w.alloc (.cells #[.int .i64 0, .int .i64 0, .int .i64 0] 61))) (.cells #[tx (kwd 0), tx (kwd 1), tx (kwd 2)] 62)
  have hs : (w.alloc (.cells #[.int .i64 0, .int .i64 0, .int .i64 0] 61)).heap.size = w.heap.size + 1 := by simp
  refine ⟨cell_later' (by simp [go_sem]) hb, cell_later' (by simp [go_sem]) hb, cell_later' (by simp [go_sem]) hb, ?_, ?_, ?_, ?_, ?_, ?_⟩
  · exact (hb.frozen (p := ⟨w.heap.size, 0, none⟩) (by show w.heap.size < _; omega)).trans (by simp [go_sem])
  · exact (hb.frozen (p := ⟨w.heap.size, 1, none⟩) (by show w.heap.size < _; omega)).trans (by simp [go_sem])
  · exact (hb.frozen (p := ⟨w.heap.size, 2, none⟩) (by show w.heap.size < _; omega)).trans (by simp [go_sem])
  all_goals
    rw [← hs]
    simp [go_sem]
theorem conv1 (W : World) (c : UInt8) : (convert 60 9 (.slice (some ⟨W.heap.size, 0, none⟩) 1 1)).run Tryz.prog (W.alloc (.cells #[by8 c] 5)) = .ok (tx [c]) (W.alloc (.cells #[by8 c] 5)) := by
  refine run_convert_bytes_back _ 60 9 5 ⟨W.heap.size, 0, none⟩ 1 [c] Tryz.underlying60 Tryz.underlying5 Tryz.underlying9 (fun j hj => ?_)
  obtain rfl : j = 0 := by simp at hj; omega
  simp [go_sem]
set_option maxRecDepth 40000 in
set_option maxHeartbeats 16000000 in
theorem kinds_any (xa : Option Addr) (len cap : Nat) (l : List UInt8) (w : World) (hn : len ≤ 9223372036854775807) (hs : Ns w xa len l) (he : Ev w) : Calls Tryz.prog 7 #[.slice xa len cap] w fun e w' => e = .returned (.bool true) ∧ Below w.heap.size w w' := by
  have hk := known_any w he
  obtain ⟨hlen, hcell⟩ := hs
  have HL : Hid (l.length = len) := hlen
  by_cases h40 : (40 : Int) < len
  · clear hlen
    go_enter Tryz.func7, Tryz.ntmps7
    go_wp2_with fail
    refine hk.mono ?_
    rintro e w1 ⟨rfl, hb1⟩
    go_wp2
    go_ret
    exact ⟨rfl, hb1⟩
  · obtain ⟨i0, hi, hz0, hz1, hz2⟩ := info_parts3
    clear hlen
    go_enter Tryz.func7, Tryz.ntmps7
    go_wp2_with fail
    refine hk.mono ?_
    rintro e w1 ⟨rfl, hb1⟩
    have hb2 := bal (bal (Below.refl _ w1) (.cells #[.int .i64 0, .int .i64 0, .int .i64 0] 61)) (.cells #[tx (kwd 0), tx (kwd 1), tx (kwd 2)] 62)
    have hkb := Kb.made w1
    have hsz : w1.heap.size + 2 ≤ ((w1.alloc (.cells #[.int .i64 0, .int .i64 0, .int .i64 0] 61)).alloc (.cells #[tx (kwd 0), tx (kwd 1), tx (kwd 2)] 62)).heap.size := by simp
    go_wp2_with fail
    go_loopw [3, 5, 7] (fun bd u i wr => ∃ (j : Nat) (v : Value), j ≤ len ∧ bd = tx (bodyK l j) ∧ v = u ∧ i = .int .i64 j ∧ OwnI wr (w1.heap.size + 2) v (kindsOf (stK l j)) ∧ Kb wr w1.heap.size (stK l j).k ∧ w1.heap.size + 2 ≤ wr.heap.size ∧ Below w1.heap.size w1 wr) (fun _ _ i _ => len - (intOf i).toNat)
    case atStart => exact ⟨0, _, by omega, rfl, rfl, rfl, OwnI.none _ _, hkb, hsz, hb2⟩
    case round =>
      obtain ⟨j, v, hj, rfl, rfl, rfl, ho, hkj, hszr, hb⟩ := hrel
      by_cases hlt : j < len
      · obtain ⟨b, off, rfl, hc⟩ := hcell (by omega)
        have hjl : j < l.length := by rw [HL.out]; exact hlt
        have k0 := cell_later' (cell_later' (hc j hlt) hb1) hb
        have hbl := bodyK_len l j
        have hkl := kinds_len l j
        have HB : Hid _ := bodyK_succ hjl
        have HT : Hid _ := @kinds_tell l j hjl
        have HO : Hid _ := @kinds_one l j hjl
        have hc8 : (l.getD j 0).toNat < 256 := UInt8.toNat_lt _
        clear hc hcell hkb hb2
        generalize hN : (l.getD j 0).toNat = N at *
        clear hN
        generalize hKO : kindsOf (stK l j) = KO at *
        clear hKO
        generalize hBK : bodyK l j = BK at *
        clear hBK
        generalize hSK : (stK l j).k = SK at *
        clear hSK
        have hB1 : bodyB BK ≤ 2000 := by unfold bodyB; omega
        unfold bodyB at hB1
        have hm3 : N % 3 = 0 ∨ N % 3 = 1 ∨ N % 3 = 2 := by omega
        have hk3 : N / 6 % 3 = 0 ∨ N / 6 % 3 = 1 ∨ N / 6 % 3 = 2 := by omega
        by_cases hp : N / 3 % 2 = 0
        · obtain ⟨t1, t2, t3⟩ := HT.out hp
          have HL1 : Hid (lineK N = kLine (mName (N % 3)) ((N / 6 % 3 : Nat) : Int)) := by show _ = _; unfold lineK; rw [if_pos hp]
          have hp' : ((N : Int) / 3 % 2) = 0 := by omega
          clear HT HO
          rcases hm3 with hm | hm | hm
          · have hm' : ((N : Int) % 3) = 0 := by omega
            rcases hk3 with hkk | hkk | hkk
            · have hk' : ((N : Int) / 6 % 3) = 0 := by omega
              have hcv : (convert 60 9 (.slice (some ⟨wr.heap.size, 0, none⟩) 1 1)).run Tryz.prog (wr.alloc (.cells #[.int .u8 97] 5)) = .ok (tx [97]) (wr.alloc (.cells #[.int .u8 97] 5)) := conv1 wr 97
              have hz := bal (Below.refl _ wr) (.cells #[.int .u8 97] 5)
              have k0z := cell_later' k0 hz
              have hkz := hkj.later hz
              have hoz := ho.later hz
              have hbz := bal hb (.cells #[.int .u8 97] 5)
              have hap : ((((((⟨BK.toArray⟩ : ByteArray) ++ ⟨#[35, 32, 84, 89, 80, 69, 32]⟩) ++ ⟨#[97]⟩) ++ ⟨#[32]⟩) ++ ⟨#[117, 110, 116, 121, 112, 101, 100]⟩) ++ ⟨#[10]⟩) = ⟨(BK ++ (kLine (mName 0) 0 ++ [10])).toArray⟩ := by
                apply ByteArray.ext
                simp [kLine, mName, kwd]
              have HE : Hid (bodyK l (j + 1) = BK ++ (kLine (mName 0) 0 ++ [10])) := by show _ = _; rw [HB.out, HL1.out, hm, hkk]; rfl
              have hkp := hkz.put0 0
              have T3 : Hid ((stK l (j + 1)).k = upd SK (mName 0) 0) := by show _ = _; rw [t3, hm, hkk]; rfl
              have T1 : Hid (kindsOf (stK l (j + 1)) = KO) := t1
              clear t1 t2 t3 HB HL1 hm hkk hp
              generalize BK ++ (kLine (mName 0) 0 ++ [10]) = B2 at *
              obtain ⟨c0, c1, c2, f0, f1, f2, n0, n1, n2⟩ := hkz
              have n0' : ((wr.alloc (.cells #[.int .u8 97] 5)).setCell ⟨w1.heap.size, 0, none⟩ (.int .i64 0)).cell? ⟨w1.heap.size + 1, 0, none⟩ = some (tx [117, 110, 116, 121, 112, 101, 100]) := hkp.n0
              go_wp2
              go_roundw
              case rel => exact ⟨j + 1, _, by omega, by rw [HE.out], rfl, by go_num, by rw [T1.out]; exact hoz.kept (grown_set _ _ _ _) (fun b e e2 => by injection e2 with e2; have := (World.ownsRow.lt hoz b e).1; omega), by rw [T3.out]; exact hkp, Nat.le_trans (Nat.le_trans hszr hz.size) (grown_set _ _ _ _).size, hbz.setCell (p := ⟨w1.heap.size, 0, none⟩) (Nat.le_refl _) _⟩
              case measure => simp [intOf]; omega
            · have hk' : ((N : Int) / 6 % 3) = 1 := by omega
              have hcv : (convert 60 9 (.slice (some ⟨wr.heap.size, 0, none⟩) 1 1)).run Tryz.prog (wr.alloc (.cells #[.int .u8 97] 5)) = .ok (tx [97]) (wr.alloc (.cells #[.int .u8 97] 5)) := conv1 wr 97
              have hz := bal (Below.refl _ wr) (.cells #[.int .u8 97] 5)
              have k0z := cell_later' k0 hz
              have hkz := hkj.later hz
              have hoz := ho.later hz
              have hbz := bal hb (.cells #[.int .u8 97] 5)
              have hap : ((((((⟨BK.toArray⟩ : ByteArray) ++ ⟨#[35, 32, 84, 89, 80, 69, 32]⟩) ++ ⟨#[97]⟩) ++ ⟨#[32]⟩) ++ ⟨#[99, 111, 117, 110, 116, 101, 114]⟩) ++ ⟨#[10]⟩) = ⟨(BK ++ (kLine (mName 0) 1 ++ [10])).toArray⟩ := by
                apply ByteArray.ext
                simp [kLine, mName, kwd]
              have HE : Hid (bodyK l (j + 1) = BK ++ (kLine (mName 0) 1 ++ [10])) := by show _ = _; rw [HB.out, HL1.out, hm, hkk]; rfl
              have hkp := hkz.put0 1
              have T3 : Hid ((stK l (j + 1)).k = upd SK (mName 0) 1) := by show _ = _; rw [t3, hm, hkk]; rfl
              have T1 : Hid (kindsOf (stK l (j + 1)) = KO) := t1
              clear t1 t2 t3 HB HL1 hm hkk hp
              generalize BK ++ (kLine (mName 0) 1 ++ [10]) = B2 at *
              obtain ⟨c0, c1, c2, f0, f1, f2, n0, n1, n2⟩ := hkz
              have n1' : ((wr.alloc (.cells #[.int .u8 97] 5)).setCell ⟨w1.heap.size, 0, none⟩ (.int .i64 1)).cell? ⟨w1.heap.size + 1, 1, none⟩ = some (tx [99, 111, 117, 110, 116, 101, 114]) := hkp.n1
              go_wp2
              go_roundw
              case rel => exact ⟨j + 1, _, by omega, by rw [HE.out], rfl, by go_num, by rw [T1.out]; exact hoz.kept (grown_set _ _ _ _) (fun b e e2 => by injection e2 with e2; have := (World.ownsRow.lt hoz b e).1; omega), by rw [T3.out]; exact hkp, Nat.le_trans (Nat.le_trans hszr hz.size) (grown_set _ _ _ _).size, hbz.setCell (p := ⟨w1.heap.size, 0, none⟩) (Nat.le_refl _) _⟩
              case measure => simp [intOf]; omega
            · have hk' : ((N : Int) / 6 % 3) = 2 := by omega
              have hcv : (convert 60 9 (.slice (some ⟨wr.heap.size, 0, none⟩) 1 1)).run Tryz.prog (wr.alloc (.cells #[.int .u8 97] 5)) = .ok (tx [97]) (wr.alloc (.cells #[.int .u8 97] 5)) := conv1 wr 97
              have hz := bal (Below.refl _ wr) (.cells #[.int .u8 97] 5)
              have k0z := cell_later' k0 hz
              have hkz := hkj.later hz
              have hoz := ho.later hz
              have hbz := bal hb (.cells #[.int .u8 97] 5)
              have hap : ((((((⟨BK.toArray⟩ : ByteArray) ++ ⟨#[35, 32, 84, 89, 80, 69, 32]⟩) ++ ⟨#[97]⟩) ++ ⟨#[32]⟩) ++ ⟨#[103, 97, 117, 103, 101]⟩) ++ ⟨#[10]⟩) = ⟨(BK ++ (kLine (mName 0) 2 ++ [10])).toArray⟩ := by
                apply ByteArray.ext
                simp [kLine, mName, kwd]
              have HE : Hid (bodyK l (j + 1) = BK ++ (kLine (mName 0) 2 ++ [10])) := by show _ = _; rw [HB.out, HL1.out, hm, hkk]; rfl
              have hkp := hkz.put0 2
              have T3 : Hid ((stK l (j + 1)).k = upd SK (mName 0) 2) := by show _ = _; rw [t3, hm, hkk]; rfl
              have T1 : Hid (kindsOf (stK l (j + 1)) = KO) := t1
              clear t1 t2 t3 HB HL1 hm hkk hp
              generalize BK ++ (kLine (mName 0) 2 ++ [10]) = B2 at *
              obtain ⟨c0, c1, c2, f0, f1, f2, n0, n1, n2⟩ := hkz
              have n2' : ((wr.alloc (.cells #[.int .u8 97] 5)).setCell ⟨w1.heap.size, 0, none⟩ (.int .i64 2)).cell? ⟨w1.heap.size + 1, 2, none⟩ = some (tx [103, 97, 117, 103, 101]) := hkp.n2
              go_wp2
              go_roundw
              case rel => exact ⟨j + 1, _, by omega, by rw [HE.out], rfl, by go_num, by rw [T1.out]; exact hoz.kept (grown_set _ _ _ _) (fun b e e2 => by injection e2 with e2; have := (World.ownsRow.lt hoz b e).1; omega), by rw [T3.out]; exact hkp, Nat.le_trans (Nat.le_trans hszr hz.size) (grown_set _ _ _ _).size, hbz.setCell (p := ⟨w1.heap.size, 0, none⟩) (Nat.le_refl _) _⟩
              case measure => simp [intOf]; omega
          · have hm' : ((N : Int) % 3) = 1 := by omega
            rcases hk3 with hkk | hkk | hkk
            · have hk' : ((N : Int) / 6 % 3) = 0 := by omega
              have hcv : (convert 60 9 (.slice (some ⟨wr.heap.size, 0, none⟩) 1 1)).run Tryz.prog (wr.alloc (.cells #[.int .u8 98] 5)) = .ok (tx [98]) (wr.alloc (.cells #[.int .u8 98] 5)) := conv1 wr 98
              have hz := bal (Below.refl _ wr) (.cells #[.int .u8 98] 5)
              have k0z := cell_later' k0 hz
              have hkz := hkj.later hz
              have hoz := ho.later hz
              have hbz := bal hb (.cells #[.int .u8 98] 5)
              have hap : ((((((⟨BK.toArray⟩ : ByteArray) ++ ⟨#[35, 32, 84, 89, 80, 69, 32]⟩) ++ ⟨#[98]⟩) ++ ⟨#[32]⟩) ++ ⟨#[117, 110, 116, 121, 112, 101, 100]⟩) ++ ⟨#[10]⟩) = ⟨(BK ++ (kLine (mName 1) 0 ++ [10])).toArray⟩ := by
                apply ByteArray.ext
                simp [kLine, mName, kwd]
              have HE : Hid (bodyK l (j + 1) = BK ++ (kLine (mName 1) 0 ++ [10])) := by show _ = _; rw [HB.out, HL1.out, hm, hkk]; rfl
              have hkp := hkz.put1 0
              have T3 : Hid ((stK l (j + 1)).k = upd SK (mName 1) 0) := by show _ = _; rw [t3, hm, hkk]; rfl
              have T1 : Hid (kindsOf (stK l (j + 1)) = KO) := t1
              clear t1 t2 t3 HB HL1 hm hkk hp
              generalize BK ++ (kLine (mName 1) 0 ++ [10]) = B2 at *
              obtain ⟨c0, c1, c2, f0, f1, f2, n0, n1, n2⟩ := hkz
              have n0' : ((wr.alloc (.cells #[.int .u8 98] 5)).setCell ⟨w1.heap.size, 1, none⟩ (.int .i64 0)).cell? ⟨w1.heap.size + 1, 0, none⟩ = some (tx [117, 110, 116, 121, 112, 101, 100]) := hkp.n0
              go_wp2
              go_roundw
              case rel => exact ⟨j + 1, _, by omega, by rw [HE.out], rfl, by go_num, by rw [T1.out]; exact hoz.kept (grown_set _ _ _ _) (fun b e e2 => by injection e2 with e2; have := (World.ownsRow.lt hoz b e).1; omega), by rw [T3.out]; exact hkp, Nat.le_trans (Nat.le_trans hszr hz.size) (grown_set _ _ _ _).size, hbz.setCell (p := ⟨w1.heap.size, 1, none⟩) (Nat.le_refl _) _⟩
              case measure => simp [intOf]; omega
            · have hk' : ((N : Int) / 6 % 3) = 1 := by omega
              have hcv : (convert 60 9 (.slice (some ⟨wr.heap.size, 0, none⟩) 1 1)).run Tryz.prog (wr.alloc (.cells #[.int .u8 98] 5)) = .ok (tx [98]) (wr.alloc (.cells #[.int .u8 98] 5)) := conv1 wr 98
              have hz := bal (Below.refl _ wr) (.cells #[.int .u8 98] 5)
              have k0z := cell_later' k0 hz
              have hkz := hkj.later hz
              have hoz := ho.later hz
              have hbz := bal hb (.cells #[.int .u8 98] 5)
              have hap : ((((((⟨BK.toArray⟩ : ByteArray) ++ ⟨#[35, 32, 84, 89, 80, 69, 32]⟩) ++ ⟨#[98]⟩) ++ ⟨#[32]⟩) ++ ⟨#[99, 111, 117, 110, 116, 101, 114]⟩) ++ ⟨#[10]⟩) = ⟨(BK ++ (kLine (mName 1) 1 ++ [10])).toArray⟩ := by
                apply ByteArray.ext
                simp [kLine, mName, kwd]
              have HE : Hid (bodyK l (j + 1) = BK ++ (kLine (mName 1) 1 ++ [10])) := by show _ = _; rw [HB.out, HL1.out, hm, hkk]; rfl
              have hkp := hkz.put1 1
              have T3 : Hid ((stK l (j + 1)).k = upd SK (mName 1) 1) := by show _ = _; rw [t3, hm, hkk]; rfl
              have T1 : Hid (kindsOf (stK l (j + 1)) = KO) := t1
              clear t1 t2 t3 HB HL1 hm hkk hp
              generalize BK ++ (kLine (mName 1) 1 ++ [10]) = B2 at *
              obtain ⟨c0, c1, c2, f0, f1, f2, n0, n1, n2⟩ := hkz
              have n1' : ((wr.alloc (.cells #[.int .u8 98] 5)).setCell ⟨w1.heap.size, 1, none⟩ (.int .i64 1)).cell? ⟨w1.heap.size + 1, 1, none⟩ = some (tx [99, 111, 117, 110, 116, 101, 114]) := hkp.n1
              go_wp2
              go_roundw
              case rel => exact ⟨j + 1, _, by omega, by rw [HE.out], rfl, by go_num, by rw [T1.out]; exact hoz.kept (grown_set _ _ _ _) (fun b e e2 => by injection e2 with e2; have := (World.ownsRow.lt hoz b e).1; omega), by rw [T3.out]; exact hkp, Nat.le_trans (Nat.le_trans hszr hz.size) (grown_set _ _ _ _).size, hbz.setCell (p := ⟨w1.heap.size, 1, none⟩) (Nat.le_refl _) _⟩
              case measure => simp [intOf]; omega
            · have hk' : ((N : Int) / 6 % 3) = 2 := by omega
              have hcv : (convert 60 9 (.slice (some ⟨wr.heap.size, 0, none⟩) 1 1)).run Tryz.prog (wr.alloc (.cells #[.int .u8 98] 5)) = .ok (tx [98]) (wr.alloc (.cells #[.int .u8 98] 5)) := conv1 wr 98
              have hz := bal (Below.refl _ wr) (.cells #[.int .u8 98] 5)
              have k0z := cell_later' k0 hz
              have hkz := hkj.later hz
              have hoz := ho.later hz
              have hbz := bal hb (.cells #[.int .u8 98] 5)
              have hap : ((((((⟨BK.toArray⟩ : ByteArray) ++ ⟨#[35, 32, 84, 89, 80, 69, 32]⟩) ++ ⟨#[98]⟩) ++ ⟨#[32]⟩) ++ ⟨#[103, 97, 117, 103, 101]⟩) ++ ⟨#[10]⟩) = ⟨(BK ++ (kLine (mName 1) 2 ++ [10])).toArray⟩ := by
                apply ByteArray.ext
                simp [kLine, mName, kwd]
              have HE : Hid (bodyK l (j + 1) = BK ++ (kLine (mName 1) 2 ++ [10])) := by show _ = _; rw [HB.out, HL1.out, hm, hkk]; rfl
              have hkp := hkz.put1 2
              have T3 : Hid ((stK l (j + 1)).k = upd SK (mName 1) 2) := by show _ = _; rw [t3, hm, hkk]; rfl
              have T1 : Hid (kindsOf (stK l (j + 1)) = KO) := t1
              clear t1 t2 t3 HB HL1 hm hkk hp
              generalize BK ++ (kLine (mName 1) 2 ++ [10]) = B2 at *
              obtain ⟨c0, c1, c2, f0, f1, f2, n0, n1, n2⟩ := hkz
              have n2' : ((wr.alloc (.cells #[.int .u8 98] 5)).setCell ⟨w1.heap.size, 1, none⟩ (.int .i64 2)).cell? ⟨w1.heap.size + 1, 2, none⟩ = some (tx [103, 97, 117, 103, 101]) := hkp.n2
              go_wp2
              go_roundw
              case rel => exact ⟨j + 1, _, by omega, by rw [HE.out], rfl, by go_num, by rw [T1.out]; exact hoz.kept (grown_set _ _ _ _) (fun b e e2 => by injection e2 with e2; have := (World.ownsRow.lt hoz b e).1; omega), by rw [T3.out]; exact hkp, Nat.le_trans (Nat.le_trans hszr hz.size) (grown_set _ _ _ _).size, hbz.setCell (p := ⟨w1.heap.size, 1, none⟩) (Nat.le_refl _) _⟩
              case measure => simp [intOf]; omega
          · have hm' : ((N : Int) % 3) = 2 := by omega
            rcases hk3 with hkk | hkk | hkk
            · have hk' : ((N : Int) / 6 % 3) = 0 := by omega
              have hcv : (convert 60 9 (.slice (some ⟨wr.heap.size, 0, none⟩) 1 1)).run Tryz.prog (wr.alloc (.cells #[.int .u8 99] 5)) = .ok (tx [99]) (wr.alloc (.cells #[.int .u8 99] 5)) := conv1 wr 99
              have hz := bal (Below.refl _ wr) (.cells #[.int .u8 99] 5)
              have k0z := cell_later' k0 hz
              have hkz := hkj.later hz
              have hoz := ho.later hz
              have hbz := bal hb (.cells #[.int .u8 99] 5)
              have hap : ((((((⟨BK.toArray⟩ : ByteArray) ++ ⟨#[35, 32, 84, 89, 80, 69, 32]⟩) ++ ⟨#[99]⟩) ++ ⟨#[32]⟩) ++ ⟨#[117, 110, 116, 121, 112, 101, 100]⟩) ++ ⟨#[10]⟩) = ⟨(BK ++ (kLine (mName 2) 0 ++ [10])).toArray⟩ := by
                apply ByteArray.ext
                simp [kLine, mName, kwd]
              have HE : Hid (bodyK l (j + 1) = BK ++ (kLine (mName 2) 0 ++ [10])) := by show _ = _; rw [HB.out, HL1.out, hm, hkk]; rfl
              have hkp := hkz.put2 0
              have T3 : Hid ((stK l (j + 1)).k = upd SK (mName 2) 0) := by show _ = _; rw [t3, hm, hkk]; rfl
              have T1 : Hid (kindsOf (stK l (j + 1)) = KO) := t1
              clear t1 t2 t3 HB HL1 hm hkk hp
              generalize BK ++ (kLine (mName 2) 0 ++ [10]) = B2 at *
              obtain ⟨c0, c1, c2, f0, f1, f2, n0, n1, n2⟩ := hkz
              have n0' : ((wr.alloc (.cells #[.int .u8 99] 5)).setCell ⟨w1.heap.size, 2, none⟩ (.int .i64 0)).cell? ⟨w1.heap.size + 1, 0, none⟩ = some (tx [117, 110, 116, 121, 112, 101, 100]) := hkp.n0
              go_wp2
              go_roundw
              case rel => exact ⟨j + 1, _, by omega, by rw [HE.out], rfl, by go_num, by rw [T1.out]; exact hoz.kept (grown_set _ _ _ _) (fun b e e2 => by injection e2 with e2; have := (World.ownsRow.lt hoz b e).1; omega), by rw [T3.out]; exact hkp, Nat.le_trans (Nat.le_trans hszr hz.size) (grown_set _ _ _ _).size, hbz.setCell (p := ⟨w1.heap.size, 2, none⟩) (Nat.le_refl _) _⟩
              case measure => simp [intOf]; omega
            · have hk' : ((N : Int) / 6 % 3) = 1 := by omega
              have hcv : (convert 60 9 (.slice (some ⟨wr.heap.size, 0, none⟩) 1 1)).run Tryz.prog (wr.alloc (.cells #[.int .u8 99] 5)) = .ok (tx [99]) (wr.alloc (.cells #[.int .u8 99] 5)) := conv1 wr 99
              have hz := bal (Below.refl _ wr) (.cells #[.int .u8 99] 5)
              have k0z := cell_later' k0 hz
              have hkz := hkj.later hz
              have hoz := ho.later hz
              have hbz := bal hb (.cells #[.int .u8 99] 5)
              have hap : ((((((⟨BK.toArray⟩ : ByteArray) ++ ⟨#[35, 32, 84, 89, 80, 69, 32]⟩) ++ ⟨#[99]⟩) ++ ⟨#[32]⟩) ++ ⟨#[99, 111, 117, 110, 116, 101, 114]⟩) ++ ⟨#[10]⟩) = ⟨(BK ++ (kLine (mName 2) 1 ++ [10])).toArray⟩ := by
                apply ByteArray.ext
                simp [kLine, mName, kwd]
              have HE : Hid (bodyK l (j + 1) = BK ++ (kLine (mName 2) 1 ++ [10])) := by show _ = _; rw [HB.out, HL1.out, hm, hkk]; rfl
              have hkp := hkz.put2 1
              have T3 : Hid ((stK l (j + 1)).k = upd SK (mName 2) 1) := by show _ = _; rw [t3, hm, hkk]; rfl
              have T1 : Hid (kindsOf (stK l (j + 1)) = KO) := t1
              clear t1 t2 t3 HB HL1 hm hkk hp
              generalize BK ++ (kLine (mName 2) 1 ++ [10]) = B2 at *
              obtain ⟨c0, c1, c2, f0, f1, f2, n0, n1, n2⟩ := hkz
              have n1' : ((wr.alloc (.cells #[.int .u8 99] 5)).setCell ⟨w1.heap.size, 2, none⟩ (.int .i64 1)).cell? ⟨w1.heap.size + 1, 1, none⟩ = some (tx [99, 111, 117, 110, 116, 101, 114]) := hkp.n1
              go_wp2
              go_roundw
              case rel => exact ⟨j + 1, _, by omega, by rw [HE.out], rfl, by go_num, by rw [T1.out]; exact hoz.kept (grown_set _ _ _ _) (fun b e e2 => by injection e2 with e2; have := (World.ownsRow.lt hoz b e).1; omega), by rw [T3.out]; exact hkp, Nat.le_trans (Nat.le_trans hszr hz.size) (grown_set _ _ _ _).size, hbz.setCell (p := ⟨w1.heap.size, 2, none⟩) (Nat.le_refl _) _⟩
              case measure => simp [intOf]; omega
            · have hk' : ((N : Int) / 6 % 3) = 2 := by omega
              have hcv : (convert 60 9 (.slice (some ⟨wr.heap.size, 0, none⟩) 1 1)).run Tryz.prog (wr.alloc (.cells #[.int .u8 99] 5)) = .ok (tx [99]) (wr.alloc (.cells #[.int .u8 99] 5)) := conv1 wr 99
              have hz := bal (Below.refl _ wr) (.cells #[.int .u8 99] 5)
              have k0z := cell_later' k0 hz
              have hkz := hkj.later hz
              have hoz := ho.later hz
              have hbz := bal hb (.cells #[.int .u8 99] 5)
              have hap : ((((((⟨BK.toArray⟩ : ByteArray) ++ ⟨#[35, 32, 84, 89, 80, 69, 32]⟩) ++ ⟨#[99]⟩) ++ ⟨#[32]⟩) ++ ⟨#[103, 97, 117, 103, 101]⟩) ++ ⟨#[10]⟩) = ⟨(BK ++ (kLine (mName 2) 2 ++ [10])).toArray⟩ := by
                apply ByteArray.ext
                simp [kLine, mName, kwd]
              have HE : Hid (bodyK l (j + 1) = BK ++ (kLine (mName 2) 2 ++ [10])) := by show _ = _; rw [HB.out, HL1.out, hm, hkk]; rfl
              have hkp := hkz.put2 2
              have T3 : Hid ((stK l (j + 1)).k = upd SK (mName 2) 2) := by show _ = _; rw [t3, hm, hkk]; rfl
              have T1 : Hid (kindsOf (stK l (j + 1)) = KO) := t1
              clear t1 t2 t3 HB HL1 hm hkk hp
              generalize BK ++ (kLine (mName 2) 2 ++ [10]) = B2 at *
              obtain ⟨c0, c1, c2, f0, f1, f2, n0, n1, n2⟩ := hkz
              have n2' : ((wr.alloc (.cells #[.int .u8 99] 5)).setCell ⟨w1.heap.size, 2, none⟩ (.int .i64 2)).cell? ⟨w1.heap.size + 1, 2, none⟩ = some (tx [103, 97, 117, 103, 101]) := hkp.n2
              go_wp2
              go_roundw
              case rel => exact ⟨j + 1, _, by omega, by rw [HE.out], rfl, by go_num, by rw [T1.out]; exact hoz.kept (grown_set _ _ _ _) (fun b e e2 => by injection e2 with e2; have := (World.ownsRow.lt hoz b e).1; omega), by rw [T3.out]; exact hkp, Nat.le_trans (Nat.le_trans hszr hz.size) (grown_set _ _ _ _).size, hbz.setCell (p := ⟨w1.heap.size, 2, none⟩) (Nat.le_refl _) _⟩
              case measure => simp [intOf]; omega
        · obtain ⟨t1, t2, t3⟩ := HO.out hp
          have HL1 : Hid (lineK N = mName (N % 3) ++ [32, 49]) := by show _ = _; unfold lineK; rw [if_neg hp]
          have hp' : ((N : Int) / 3 % 2) = 1 := by omega
          clear HT HO
          rcases hm3 with hm | hm | hm
          · have hm' : ((N : Int) % 3) = 0 := by omega
            have hcv : (convert 60 9 (.slice (some ⟨wr.heap.size, 0, none⟩) 1 1)).run Tryz.prog (wr.alloc (.cells #[.int .u8 97] 5)) = .ok (tx [97]) (wr.alloc (.cells #[.int .u8 97] 5)) := conv1 wr 97
            have hz := bal (Below.refl _ wr) (.cells #[.int .u8 97] 5)
            have k0z := cell_later' k0 hz
            have hkz := hkj.later hz
            have hoz := ho.later hz
            have hbz := bal hb (.cells #[.int .u8 97] 5)
            have hap : (((⟨BK.toArray⟩ : ByteArray) ++ ⟨#[97]⟩) ++ ⟨#[32, 49, 10]⟩) = ⟨(BK ++ (mName 0 ++ [32, 49] ++ [10])).toArray⟩ := by
              apply ByteArray.ext
              simp [mName]
            have HE : Hid (bodyK l (j + 1) = BK ++ (mName 0 ++ [32, 49] ++ [10])) := by show _ = _; rw [HB.out, HL1.out, hm]
            have T3 : Hid ((stK l (j + 1)).k = SK) := t3
            have T1 : Hid (kindsOf (stK l (j + 1)) = KO ++ [SK (mName 0)]) := by show _ = _; rw [t1, hm]
            clear t1 t2 t3 HB HL1 hm hp
            generalize BK ++ (mName 0 ++ [32, 49] ++ [10]) = B2 at *
            have hy := bal (Below.refl _ (wr.alloc (.cells #[.int .u8 97] 5))) (.cells #[.int .i64 (SK (mName 0))] 3)
            have hky := hkz.later hy
            have hoy := hoz.later hy
            have hby := bal hbz (.cells #[.int .i64 (SK (mName 0))] 3)
            obtain ⟨c0, c1, c2, f0, f1, f2, n0, n1, n2⟩ := hkz
            generalize SK (mName 0) = y at *
            go_wp2_with (at_builtin; go_must (refine wpList_append_own_at _ rfl _ _ 27 rfl (w1.heap.size + 2) 3 i0 (.int .i64 0) 1 8 Tryz.underlying27 hi hz0 hz1 hz2 rfl (by decide) _ _ _ rfl hoy ⟨(wr.alloc (.cells #[.int .u8 97] 5)).heap.size, 0, none⟩ 1 1 [iv y] ?hx rfl (cell_one_new _ _ _) (fun u hu => by cases hu with | head => rfl | tail _ h => cases h) ?h63 ?hby ?hbs ?_))
            case hx => simp [Act.eval]
            case h63 => unfold maxLen; omega
            case hby => omega
            case hbs => exact Nat.le_trans (Nat.le_trans hszr hz.size) hy.size
            intro v2 w2 ho2 hg2 _ hl2
            have hlo := World.ownsRow.lt hoy
            go_wp2
            go_roundw
            case rel => exact ⟨j + 1, _, by omega, by rw [HE.out], rfl, by go_num, by rw [T1.out]; exact OwnI.snoc ho2, by rw [T3.out]; exact hky.kept hg2 (fun e => by have := (hlo _ e.symm).1; omega) (fun e => by have := (hlo _ e.symm).1; omega), Nat.le_trans (Nat.le_trans (Nat.le_trans hszr hz.size) hy.size) hg2.size, hby.grown hg2 hby.size (fun k hk => by have := (hlo k hk).1; omega)⟩
            case measure => simp [intOf]; omega
          · have hm' : ((N : Int) % 3) = 1 := by omega
            have hcv : (convert 60 9 (.slice (some ⟨wr.heap.size, 0, none⟩) 1 1)).run Tryz.prog (wr.alloc (.cells #[.int .u8 98] 5)) = .ok (tx [98]) (wr.alloc (.cells #[.int .u8 98] 5)) := conv1 wr 98
            have hz := bal (Below.refl _ wr) (.cells #[.int .u8 98] 5)
            have k0z := cell_later' k0 hz
            have hkz := hkj.later hz
            have hoz := ho.later hz
            have hbz := bal hb (.cells #[.int .u8 98] 5)
            have hap : (((⟨BK.toArray⟩ : ByteArray) ++ ⟨#[98]⟩) ++ ⟨#[32, 49, 10]⟩) = ⟨(BK ++ (mName 1 ++ [32, 49] ++ [10])).toArray⟩ := by
              apply ByteArray.ext
              simp [mName]
            have HE : Hid (bodyK l (j + 1) = BK ++ (mName 1 ++ [32, 49] ++ [10])) := by show _ = _; rw [HB.out, HL1.out, hm]
            have T3 : Hid ((stK l (j + 1)).k = SK) := t3
            have T1 : Hid (kindsOf (stK l (j + 1)) = KO ++ [SK (mName 1)]) := by show _ = _; rw [t1, hm]
            clear t1 t2 t3 HB HL1 hm hp
            generalize BK ++ (mName 1 ++ [32, 49] ++ [10]) = B2 at *
            have hy := bal (Below.refl _ (wr.alloc (.cells #[.int .u8 98] 5))) (.cells #[.int .i64 (SK (mName 1))] 3)
            have hky := hkz.later hy
            have hoy := hoz.later hy
            have hby := bal hbz (.cells #[.int .i64 (SK (mName 1))] 3)
            obtain ⟨c0, c1, c2, f0, f1, f2, n0, n1, n2⟩ := hkz
            generalize SK (mName 1) = y at *
            go_wp2_with (at_builtin; go_must (refine wpList_append_own_at _ rfl _ _ 27 rfl (w1.heap.size + 2) 3 i0 (.int .i64 0) 1 8 Tryz.underlying27 hi hz0 hz1 hz2 rfl (by decide) _ _ _ rfl hoy ⟨(wr.alloc (.cells #[.int .u8 98] 5)).heap.size, 0, none⟩ 1 1 [iv y] ?hx rfl (cell_one_new _ _ _) (fun u hu => by cases hu with | head => rfl | tail _ h => cases h) ?h63 ?hby ?hbs ?_))
            case hx => simp [Act.eval]
            case h63 => unfold maxLen; omega
            case hby => omega
            case hbs => exact Nat.le_trans (Nat.le_trans hszr hz.size) hy.size
            intro v2 w2 ho2 hg2 _ hl2
            have hlo := World.ownsRow.lt hoy
            go_wp2
            go_roundw
            case rel => exact ⟨j + 1, _, by omega, by rw [HE.out], rfl, by go_num, by rw [T1.out]; exact OwnI.snoc ho2, by rw [T3.out]; exact hky.kept hg2 (fun e => by have := (hlo _ e.symm).1; omega) (fun e => by have := (hlo _ e.symm).1; omega), Nat.le_trans (Nat.le_trans (Nat.le_trans hszr hz.size) hy.size) hg2.size, hby.grown hg2 hby.size (fun k hk => by have := (hlo k hk).1; omega)⟩
            case measure => simp [intOf]; omega
          · have hm' : ((N : Int) % 3) = 2 := by omega
            have hcv : (convert 60 9 (.slice (some ⟨wr.heap.size, 0, none⟩) 1 1)).run Tryz.prog (wr.alloc (.cells #[.int .u8 99] 5)) = .ok (tx [99]) (wr.alloc (.cells #[.int .u8 99] 5)) := conv1 wr 99
            have hz := bal (Below.refl _ wr) (.cells #[.int .u8 99] 5)
            have k0z := cell_later' k0 hz
            have hkz := hkj.later hz
            have hoz := ho.later hz
            have hbz := bal hb (.cells #[.int .u8 99] 5)
            have hap : (((⟨BK.toArray⟩ : ByteArray) ++ ⟨#[99]⟩) ++ ⟨#[32, 49, 10]⟩) = ⟨(BK ++ (mName 2 ++ [32, 49] ++ [10])).toArray⟩ := by
              apply ByteArray.ext
              simp [mName]
            have HE : Hid (bodyK l (j + 1) = BK ++ (mName 2 ++ [32, 49] ++ [10])) := by show _ = _; rw [HB.out, HL1.out, hm]
            have T3 : Hid ((stK l (j + 1)).k = SK) := t3
            have T1 : Hid (kindsOf (stK l (j + 1)) = KO ++ [SK (mName 2)]) := by show _ = _; rw [t1, hm]
            clear t1 t2 t3 HB HL1 hm hp
            generalize BK ++ (mName 2 ++ [32, 49] ++ [10]) = B2 at *
            have hy := bal (Below.refl _ (wr.alloc (.cells #[.int .u8 99] 5))) (.cells #[.int .i64 (SK (mName 2))] 3)
            have hky := hkz.later hy
            have hoy := hoz.later hy
            have hby := bal hbz (.cells #[.int .i64 (SK (mName 2))] 3)
            obtain ⟨c0, c1, c2, f0, f1, f2, n0, n1, n2⟩ := hkz
            generalize SK (mName 2) = y at *
            go_wp2_with (at_builtin; go_must (refine wpList_append_own_at _ rfl _ _ 27 rfl (w1.heap.size + 2) 3 i0 (.int .i64 0) 1 8 Tryz.underlying27 hi hz0 hz1 hz2 rfl (by decide) _ _ _ rfl hoy ⟨(wr.alloc (.cells #[.int .u8 99] 5)).heap.size, 0, none⟩ 1 1 [iv y] ?hx rfl (cell_one_new _ _ _) (fun u hu => by cases hu with | head => rfl | tail _ h => cases h) ?h63 ?hby ?hbs ?_))
            case hx => simp [Act.eval]
            case h63 => unfold maxLen; omega
            case hby => omega
            case hbs => exact Nat.le_trans (Nat.le_trans hszr hz.size) hy.size
            intro v2 w2 ho2 hg2 _ hl2
            have hlo := World.ownsRow.lt hoy
            go_wp2
            go_roundw
            case rel => exact ⟨j + 1, _, by omega, by rw [HE.out], rfl, by go_num, by rw [T1.out]; exact OwnI.snoc ho2, by rw [T3.out]; exact hky.kept hg2 (fun e => by have := (hlo _ e.symm).1; omega) (fun e => by have := (hlo _ e.symm).1; omega), Nat.le_trans (Nat.le_trans (Nat.le_trans hszr hz.size) hy.size) hg2.size, hby.grown hg2 hby.size (fun k hk => by have := (hlo k hk).1; omega)⟩
            case measure => simp [intOf]; omega
      · have hjl : j = l.length := by rw [HL.out]; omega
        have hll : l.length ≤ 40 := by rw [HL.out]; omega
        have hjlen : ¬ (j : Int) < len := by omega
        have hps := parseV_any (bodyK l j) wr (by have := bodyK_len l j; omega) ((he.later hb1).later hb)
        have ebd : bodyS (bodyK l j) = stK l l.length := by rw [hjl]; exact stK_body hll
        rw [ebd, bad_none l _ (Nat.le_refl _)] at hps
        rw [hjl] at ho
        obtain ⟨ao, vcap, rfl, hin⟩ := ho.view
        have hkk : (kindsOf (stK l l.length)).length = (stK l l.length).out.length := by unfold kindsOf; simp
        have hkd : ∀ i, i < (stK l l.length).out.length → (kindsOf (stK l l.length)).getD i 0 = ((stK l l.length).out.getD i scr0).kind := fun i hi => by
          unfold kindsOf
          simp [List.getD, List.getElem?_eq_getElem hi]
        have hol : (stK l l.length).out.length ≤ 40 := by have := kinds_len l l.length; rw [hkk] at this; omega
        rw [hkk] at hin
        rw [hkk]
        clear hkj hcell hkb hb2 hll ho ebd hjl
        generalize bodyK l j = BK at *
        generalize hKO : kindsOf (stK l l.length) = KO at *
        clear hKO hkk
        generalize (stK l l.length).out = OU at *
        have hoo : ((OU.length : Int) != OU.length) = false := by simp
        go_wp2_with fail
        refine hps.mono ?_
        rintro e w2 ⟨xo, xcap, bo, bcap, rfl, hxs, _, hB⟩
        have hin2 := hin.later hB
        have B2 := Below.chain (Below.chain hb1 hb) hB
        obtain ⟨_, hxc⟩ := hxs
        obtain ⟨_, hic⟩ := hin2
        clear hps hin
        go_wp2_with fail
        go_loopw [13] (fun i wq => ∃ q : Nat, q ≤ OU.length ∧ i = .int .i64 q ∧ Below w2.heap.size w2 wq) (fun i _ => OU.length - (intOf i).toNat)
        case atStart => exact ⟨0, by omega, rfl, Below.refl _ _⟩
        case round =>
          obtain ⟨q, hq, rfl, hbq⟩ := hrel
          by_cases hlq : q < OU.length
          · obtain ⟨b1, o1, rfl, g1⟩ := hxc (by omega)
            obtain ⟨b2, o2, rfl, g2⟩ := hic (by omega)
            obtain ⟨_, _, _, _, _, _, _, _, x5⟩ := g1 q hlq
            have y5 := g2 q hlq
            rw [hkd q hlq] at y5
            have x5' := cell_later' x5 hbq
            have y5' := cell_later' y5 hbq
            clear g1 g2 hxc hic x5 y5 hkd
            generalize (OU.getD q scr0).kind = kk at *
            have hkn : (kk != kk) = false := by simp
            go_wp2
            go_quiet (fail)
            go_wp2
            go_roundw
            case rel => exact ⟨q + 1, by omega, by go_num, below_drewN hbq _⟩
            case measure => simp [intOf]; omega
          · go_wp2
            go_ret
            exact ⟨rfl, Below.chain B2 hbq⟩
end Go.Proofs.YtcbjhfnlhpallaaGreatDoor
