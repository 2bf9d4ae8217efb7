/- Texts that the others lean on, laid together. -/
import Derived.Test.YteankdaegdhfiaaGreatDoorML
import Derived.Test.YteankdaegdhfiaaGreatDoorMP
/- Whether two trees are the same. -/
namespace Go.Proofs.YteankdaegdhfiaaGreatDoor
open Go.RowKit

def smF : List (Ex → Bool) → List Ex → Bool
  | [], [] => true
  | f :: l, y :: m => f y && smF l m
  | [], _ :: _ => false
  | _ :: _, [] => false
def smG (a : Ex) (fs : List (Ex → Bool)) (b : Ex) : Bool := alk a b && smF fs b.ks
def smE (a : Ex) : Ex → Bool := foldE smG a
def smL : List Ex → List Ex → Bool
  | [], [] => true
  | x :: l, y :: m => smE x y && smL l m
  | [], _ :: _ => false
  | _ :: _, [] => false
theorem smF_map : ∀ l m, smF (l.map smE) m = smL l m
  | [], [] => rfl
  | x :: l, y :: m => by rw [List.map_cons, smF, smL, smF_map l m]
  | [], _ :: _ => rfl
  | _ :: _, [] => rfl
theorem smE_eq (a b : Ex) : smE a b = (alk a b && smL a.ks b.ks) := by
  have h : smE a = smG a (a.ks.map smE) := by
    show foldE smG a = _
    rw [foldE_eq]
    rfl
  rw [h, ← smF_map]
  rfl
theorem smE_mk (k p : Int) (o : Bool) (v : Int) (s : Str) (m : List Mt) (r : Int) (b1 b2 b3 b4 : Bool) (ns : List Str) (ks : List Ex) (b : Ex) : smE ⟨k, p, o, v, s, m, r, b1, b2, b3, b4, ns, ks⟩ b = (alk ⟨k, p, o, v, s, m, r, b1, b2, b3, b4, ns, ks⟩ b && smL ks b.ks) := smE_eq _ b
theorem smL_len : ∀ (l m : List Ex), l.length ≠ m.length → smL l m = false
  | [], [], h => absurd rfl h
  | [], _ :: _, _ => by rw [smL]
  | _ :: _, [], _ => by rw [smL]
  | x :: l, y :: m, h => by rw [smL, smL_len l m (by simpa using h), Bool.and_false]
theorem smL_no : ∀ (l m : List Ex) (k : Nat) (x y : Ex), l[k]? = some x → m[k]? = some y → smE x y = false → smL l m = false
  | [], _, _, _, _, h, _, _ => by simp at h
  | _ :: _, [], _, _, _, _, h, _ => by simp at h
  | a :: l, b :: m, 0, x, y, h, h', hq => by
    simp at h h'
    subst h h'
    rw [smL, hq, Bool.false_and]
  | a :: l, b :: m, k + 1, x, y, h, h', hq => by
    rw [smL, smL_no l m k x y (by simpa using h) (by simpa using h') hq, Bool.and_false]
theorem smL_yes : ∀ (l m : List Ex), l.length = m.length → (∀ (k : Nat) (x y : Ex), l[k]? = some x → m[k]? = some y → smE x y = true) → smL l m = true
  | [], [], _, _ => by rw [smL]
  | [], _ :: _, h, _ => by simp at h
  | _ :: _, [], h, _ => by simp at h
  | x :: l, y :: m, h, hq => by
    rw [smL, hq 0 x y rfl rfl, smL_yes l m (by simpa using h) (fun k a b ha hb => hq (k + 1) a b (by simpa using ha) (by simpa using hb))]
    rfl
def SameOK (P P' : Nat → Prop) (a : Ex) : Prop := ∀ (b : Ex), Sm a → ∀ (w : World) (ca cb : Array Value), TrP P w a ca → TrP P' w b cb → Calls Tryz.prog 23 #[.agg ca, .agg cb] w fun x w' => x = .returned (.bool (smE a b)) ∧ Below w.heap.size w w'
set_option maxHeartbeats 8000000 in
theorem eqF_any {P P' : Nat → Prop} {w : World} {ao ao' : Option Addr} {cap cap' : Nat} (ks ks' : List Ex) (ih : ∀ x ∈ ks, SameOK P P' x) (hs : ∀ x, x ∈ ks → Sm x) (hn : ks.length ≤ 9223372036854775807)
    (hkid : ∀ (i : Nat) (x : Ex), ks[i]? = some x → ∃ b off ci, ao = some ⟨b, off, none⟩ ∧ Kid P w b off i x ci)
    (hkid' : ∀ (i : Nat) (x : Ex), ks'[i]? = some x → ∃ b off ci, ao' = some ⟨b, off, none⟩ ∧ Kid P' w b off i x ci) :
    Calls Tryz.prog 51 #[.slice ao ks.length cap, .slice ao' ks'.length cap', .func (.func 23) #[] #[]] w fun e w' => e = .returned (.bool (smL ks ks')) ∧ Below w.heap.size w w' := by
  have HK : Hid _ := hkid
  have HK' : Hid _ := hkid'
  have HI : Hid _ := ih
  have HM : Hid _ := hs
  clear hkid hkid' ih hs
  by_cases hne : ks.length = ks'.length
  · rw [← hne]
    generalize hnk : ks.length = n at *
    have HN : Hid (ks.length = n) := hnk
    have HN' : Hid (ks'.length = n) := hne.symm
    clear hnk hne
    have t0 : ((n : Int) != n) = false := by rw [bne_eq_false_iff_eq]
    go_enter Tryz.func51, Tryz.ntmps51
    go_wp2_with fail
    go_loopw [17] (fun i wr => ∃ k : Nat, k ≤ n ∧ i = .int .i64 k ∧ Below w.heap.size w wr ∧ Hid (∀ (j : Nat) (x y : Ex), j < k → ks[j]? = some x → ks'[j]? = some y → smE x y = true)) (fun i _ => n - (intOf i).toNat)
    case atStart => exact ⟨0, by omega, rfl, Below.refl _ _, fun j x y hj => by omega⟩
    case round =>
      obtain ⟨k, hk, rfl, B, HA⟩ := hrel
      by_cases hlt : k < n
      · have hlt' : (k : Int) < n := by omega
        obtain ⟨x, hx⟩ : ∃ x, ks[k]? = some x := ⟨_, List.getElem?_eq_getElem (by have := HN.out; omega)⟩
        obtain ⟨y, hy⟩ : ∃ y, ks'[k]? = some y := ⟨_, List.getElem?_eq_getElem (by have := HN'.out; omega)⟩
        obtain ⟨b, off, ci, ea, kd⟩ := HK.out k x hx
        obtain ⟨b', off', cj, ea', kd'⟩ := HK'.out k y hy
        have kd1 := kd.later B
        have kd1' := kd'.later B
        have row := kd1.t.row
        have row' := kd1'.t.row
        subst ea ea'
        have his := fun W hW hW' => HI.out x (List.mem_of_getElem? hx) y (HM.out x (List.mem_of_getElem? hx)) W ci cj hW hW'
        have HNo : Hid (smE x y = false → smL ks ks' = false) := smL_no ks ks' k x y hx hy
        have HYes : Hid (smE x y = true → ∀ (j : Nat) (x y : Ex), j < k + 1 → ks[j]? = some x → ks'[j]? = some y → smE x y = true) := fun hq j x2 y2 hj h1 h2 => by
          by_cases e : j = k
          · subst e
            rw [hx] at h1
            rw [hy] at h2
            cases h1
            cases h2
            exact hq
          · exact HA.out j x2 y2 (by omega) h1 h2
        have Ba := bal (Below.refl wr.heap.size wr) (.cells zE 29)
        have q0 := heap_new wr (.cells zE 29)
        have zP := size_le wr (.cells zE 29)
        clear hx hy kd kd' HA HK HK' HI
        cases hq : smE x y with
        | true =>
          have HR : Hid _ := HYes.out hq
          simp only [hq] at his
          clear HNo HYes hq
          go_wp2_with (first | (refine wp_getm rfl _ rfl b (off + k * 13) ci rfl kd1.r row.1 ?_) | (refine wp_put rfl 29 _ _ rfl wr.heap.size ci rfl rfl _ 29 q0 13 inf29 rfl row ?_; intro w2 q2 o2 z2; clear z2; have zq := lt_of_heap q2; have D2 := ((Off.of Ba []).trans o2 (by simp)).below (by simp); have kd2 := kd1'.later D2; have q3 := heap_new w2 (.cells zE 29); have D3 := bal D2 (.cells zE 29); have q2' := below_heap (bal (Below.refl w2.heap.size w2) (.cells zE 29)) q2; have zz := size_le w2 (.cells zE 29)) | (refine wp_getm rfl _ rfl b' (off' + k * 13) cj rfl kd2.r row'.1 ?_) | (refine wp_put rfl 29 _ _ rfl w2.heap.size cj rfl rfl _ 29 q3 13 inf29 rfl row' ?_; intro w4 q4 o4 z4; clear z4; have q2'' := o4.heap q2' (by simp <;> omega)) | (refine wp_get rfl 29 _ rfl wr.heap.size ci 29 rfl q2'' _ Tryz.underlying29 rfl 13 inf29 row.1 ?_) | (refine wp_get rfl 29 _ rfl w2.heap.size cj 29 rfl q4 _ Tryz.underlying29 rfl 13 inf29 row'.1 ?_))
          have zd := D2.size
          have D4 := ((Off.of D3 []).trans o4 (by simp <;> omega)).below (by simp)
          refine (his _ (TrP.later kd1.t D4) (TrP.later kd1'.t D4)).mono ?_
          rintro e w5 ⟨rfl, b5⟩
          have D5 := D4.trans (b5.mono D4.size)
          have B5 := B.trans (D5.mono B.size)
          go_wp2_with fail
          go_roundw
          case rel => exact ⟨k + 1, by omega, by go_num, B5, HR⟩
          case measure => simp [intOf]; omega
        | false =>
          have HR : Hid (smL ks ks' = false) := HNo.out hq
          simp only [hq] at his
          clear HNo HYes hq
          go_wp2_with (first | (refine wp_getm rfl _ rfl b (off + k * 13) ci rfl kd1.r row.1 ?_) | (refine wp_put rfl 29 _ _ rfl wr.heap.size ci rfl rfl _ 29 q0 13 inf29 rfl row ?_; intro w2 q2 o2 z2; clear z2; have zq := lt_of_heap q2; have D2 := ((Off.of Ba []).trans o2 (by simp)).below (by simp); have kd2 := kd1'.later D2; have q3 := heap_new w2 (.cells zE 29); have D3 := bal D2 (.cells zE 29); have q2' := below_heap (bal (Below.refl w2.heap.size w2) (.cells zE 29)) q2; have zz := size_le w2 (.cells zE 29)) | (refine wp_getm rfl _ rfl b' (off' + k * 13) cj rfl kd2.r row'.1 ?_) | (refine wp_put rfl 29 _ _ rfl w2.heap.size cj rfl rfl _ 29 q3 13 inf29 rfl row' ?_; intro w4 q4 o4 z4; clear z4; have q2'' := o4.heap q2' (by simp <;> omega)) | (refine wp_get rfl 29 _ rfl wr.heap.size ci 29 rfl q2'' _ Tryz.underlying29 rfl 13 inf29 row.1 ?_) | (refine wp_get rfl 29 _ rfl w2.heap.size cj 29 rfl q4 _ Tryz.underlying29 rfl 13 inf29 row'.1 ?_))
          have zd := D2.size
          have D4 := ((Off.of D3 []).trans o4 (by simp <;> omega)).below (by simp)
          refine (his _ (TrP.later kd1.t D4) (TrP.later kd1'.t D4)).mono ?_
          rintro e w5 ⟨rfl, b5⟩
          have D5 := D4.trans (b5.mono D4.size)
          have B5 := B.trans (D5.mono B.size)
          go_wp2_with fail
          go_ret
          exact ⟨by rw [HR.out]; rfl, B5⟩
      · have hlt' : ¬ (k : Int) < n := by omega
        have HR : Hid (smL ks ks' = true) := smL_yes ks ks' (by rw [HN.out, HN'.out]) (fun j x y h1 h2 => HA.out j x y (by have := (List.getElem?_eq_some_iff.1 h1).1; have := HN.out; omega) h1 h2)
        clear HA HK HK' HI HM
        go_wp2_with fail
        go_ret
        exact ⟨by rw [HR.out]; rfl, B⟩
  · have HR : Hid (smL ks ks' = false) := smL_len _ _ hne
    have t0 : ((ks.length : Int) != ks'.length) = true := by rw [bne_iff_ne]; omega
    clear HK HK' HI HM hne
    go_enter Tryz.func51, Tryz.ntmps51
    go_wp2_with fail
    go_ret
    exact ⟨by rw [HR.out]; rfl, Below.refl _ _⟩
end Go.Proofs.YteankdaegdhfiaaGreatDoor
/- Whether two trees are the same, the whole. -/
namespace Go.Proofs.YteankdaegdhfiaaGreatDoor
open Go.RowKit

set_option maxHeartbeats 8000000 in
theorem same_ok {P P' : Nat → Prop} (a : Ex) : SameOK P P' a := by
  refine Ex.ind (SameOK P P') ?_ a
  intro a ih b hs w ca cb ha hb
  obtain ⟨_, _, _, _, _, s6, s7⟩ := (Sm_eq a).1 hs
  obtain ⟨vm, vn, ao, cap, rfl, sm, sn, _, hkid⟩ := ha.parts
  obtain ⟨vm', vn', ao', cap', rfl, sm', sn', _, hkid'⟩ := hb.parts
  obtain ⟨am, cm, rfl, _⟩ := sm
  obtain ⟨an, cn, rfl, _⟩ := sn
  obtain ⟨am', cm', rfl, _⟩ := sm'
  obtain ⟨an', cn', rfl, _⟩ := sn'
  have hA := fun W (hW : Below w.heap.size w W) => alike_any (TrP.later ha hW) (TrP.later hb hW) hs
  have hF := fun W (hW : Below w.heap.size w W) => eqF_any (cap := cap) (cap' := cap') a.ks b.ks ih s7 s6 (fun i x hx => by
    obtain ⟨b, off, ci, e1, kd⟩ := hkid i x hx
    exact ⟨b, off, ci, e1, kd.later hW⟩) (fun i x hx => by
    obtain ⟨b, off, ci, e1, kd⟩ := hkid' i x hx
    exact ⟨b, off, ci, e1, kd.later hW⟩)
  have HE : Hid (smE a b = (alk a b && smL a.ks b.ks)) := smE_eq a b
  clear s6 s7 hkid hkid' ih ha hb hs
  have a1 := bal (Below.refl w.heap.size w) (.cells (exA a.k a.p a.o a.v a.s (.slice am a.m.length cm) a.r a.b1 a.b2 a.b3 a.b4 (.slice an a.ns.length cn) (.slice ao a.ks.length cap)) 29)
  have B2 := bal a1 (.cells (exA b.k b.p b.o b.v b.s (.slice am' b.m.length cm') b.r b.b1 b.b2 b.b3 b.b4 (.slice an' b.ns.length cn') (.slice ao' b.ks.length cap')) 29)
  have qa := below_heap (bal (Below.refl (w.alloc (.cells (exA a.k a.p a.o a.v a.s (.slice am a.m.length cm) a.r a.b1 a.b2 a.b3 a.b4 (.slice an a.ns.length cn) (.slice ao a.ks.length cap)) 29)).heap.size (w.alloc (.cells (exA a.k a.p a.o a.v a.s (.slice am a.m.length cm) a.r a.b1 a.b2 a.b3 a.b4 (.slice an a.ns.length cn) (.slice ao a.ks.length cap)) 29))) (.cells (exA b.k b.p b.o b.v b.s (.slice am' b.m.length cm') b.r b.b1 b.b2 b.b3 b.b4 (.slice an' b.ns.length cn') (.slice ao' b.ks.length cap')) 29)) (heap_new w (.cells (exA a.k a.p a.o a.v a.s (.slice am a.m.length cm) a.r a.b1 a.b2 a.b3 a.b4 (.slice an a.ns.length cn) (.slice ao a.ks.length cap)) 29))
  have qb : ((w.alloc (.cells (exA a.k a.p a.o a.v a.s (.slice am a.m.length cm) a.r a.b1 a.b2 a.b3 a.b4 (.slice an a.ns.length cn) (.slice ao a.ks.length cap)) 29)).alloc (.cells (exA b.k b.p b.o b.v b.s (.slice am' b.m.length cm') b.r b.b1 b.b2 b.b3 b.b4 (.slice an' b.ns.length cn') (.slice ao' b.ks.length cap')) 29)).heap[w.heap.size + 1]? = some (.cells (exA b.k b.p b.o b.v b.s (.slice am' b.m.length cm') b.r b.b1 b.b2 b.b3 b.b4 (.slice an' b.ns.length cn') (.slice ao' b.ks.length cap')) 29) := by
    have h := heap_new (w.alloc (.cells (exA a.k a.p a.o a.v a.s (.slice am a.m.length cm) a.r a.b1 a.b2 a.b3 a.b4 (.slice an a.ns.length cn) (.slice ao a.ks.length cap)) 29)) (.cells (exA b.k b.p b.o b.v b.s (.slice am' b.m.length cm') b.r b.b1 b.b2 b.b3 b.b4 (.slice an' b.ns.length cn') (.slice ao' b.ks.length cap')) 29)
    rw [size_al] at h
    exact h
  clear a1
  cases hq : alk a b with
  | false =>
    have HR : Hid (smE a b = false) := by show _ = _; rw [HE.out, hq]; rfl
    simp only [hq] at hA
    clear HE hF hq
    go_enter Tryz.func23, Tryz.ntmps23
    go_wp2_with (first | (refine wp_get rfl 29 _ rfl w.heap.size (exA a.k a.p a.o a.v a.s (.slice am a.m.length cm) a.r a.b1 a.b2 a.b3 a.b4 (.slice an a.ns.length cn) (.slice ao a.ks.length cap)) 29 rfl qa _ Tryz.underlying29 rfl 13 inf29 rfl ?_) | (refine wp_get rfl 29 _ rfl (w.heap.size + 1) (exA b.k b.p b.o b.v b.s (.slice am' b.m.length cm') b.r b.b1 b.b2 b.b3 b.b4 (.slice an' b.ns.length cn') (.slice ao' b.ks.length cap')) 29 rfl qb _ Tryz.underlying29 rfl 13 inf29 rfl ?_))
    refine (hA _ B2).mono ?_
    rintro e w2 ⟨rfl, b2⟩
    have B3 := B2.trans (b2.mono B2.size)
    go_wp2_with fail
    go_ret
    exact ⟨by rw [HR.out]; rfl, B3⟩
  | true =>
    have HR : Hid (smE a b = smL a.ks b.ks) := by show _ = _; rw [HE.out, hq]; rfl
    simp only [hq] at hA
    clear HE hq
    go_enter Tryz.func23, Tryz.ntmps23
    go_wp2_with (first | (refine wp_get rfl 29 _ rfl w.heap.size (exA a.k a.p a.o a.v a.s (.slice am a.m.length cm) a.r a.b1 a.b2 a.b3 a.b4 (.slice an a.ns.length cn) (.slice ao a.ks.length cap)) 29 rfl qa _ Tryz.underlying29 rfl 13 inf29 rfl ?_) | (refine wp_get rfl 29 _ rfl (w.heap.size + 1) (exA b.k b.p b.o b.v b.s (.slice am' b.m.length cm') b.r b.b1 b.b2 b.b3 b.b4 (.slice an' b.ns.length cn') (.slice ao' b.ks.length cap')) 29 rfl qb _ Tryz.underlying29 rfl 13 inf29 rfl ?_))
    refine (hA _ B2).mono ?_
    rintro e w2 ⟨rfl, b2⟩
    have B3 := B2.trans (b2.mono B2.size)
    have x12 := (cell_at (below_heap b2 qa) 12).trans rfl
    have y12 := (cell_at (below_heap b2 qb) 12).trans rfl
    go_wp2_with fail
    refine (hF _ B3).mono ?_
    rintro e w3 ⟨rfl, b3⟩
    have B4 := B3.trans (b3.mono B3.size)
    go_wp2_with fail
    go_ret
    exact ⟨by rw [HR.out]; simp, B4⟩
end Go.Proofs.YteankdaegdhfiaaGreatDoor
/- The one text that every law reads first: plain facts. -/
namespace Go.Proofs.YteankdaegdhfiaaGreatDoor
open Go.RowKit

def KT : Str := [97, 32, 43, 32, 98, 32, 42, 32, 45, 50, 32, 62, 32, 115, 117, 109, 32, 98, 121, 32, 40, 120, 41, 32, 40, 114, 97, 116, 101, 40, 99, 123, 100, 94, 61, 34, 101, 34, 125, 91, 53, 116, 93, 41, 41]
def KP : Str := [40, 40, 97, 32, 43, 32, 40, 98, 32, 42, 32, 45, 50, 41, 41, 32, 62, 32, 115, 117, 109, 32, 98, 121, 32, 40, 120, 41, 32, 40, 114, 97, 116, 101, 40, 99, 123, 100, 94, 61, 34, 101, 34, 125, 91, 53, 116, 93, 41, 41, 41]
theorem k71 : psE [40, 97] = 71 := by kernel_rfl
theorem kA : psA [40, 97] = 2 := by kernel_rfl
theorem kE : psE KT = 0 := by kernel_rfl
theorem kSz : sz (psX KT) = 10 := evE_ok szG 20 _ _ (by kernel_rfl)
theorem kSnd : sndE (psX KT) = true := evE_ok sndG 20 _ _ (by kernel_rfl)
theorem kIs : isE (psX KT) = true := by
  unfold isE
  rw [kSz, kSnd]
  rfl
theorem kMet : metE (psX KT) = [[97], [98], [99]] := evE_ok metG 20 _ _ (by kernel_rfl)
theorem kPr : pr9 (psX KT) = KP := evE_ok prG 20 _ _ (by kernel_rfl)
end Go.Proofs.YteankdaegdhfiaaGreatDoor
/- What every law asks first: it is so. -/
namespace Go.Proofs.YteankdaegdhfiaaGreatDoor
open Go.RowKit

def smG9 (e : Ex) (l : List Bool) : Bool := decide (e.s.length ≤ 1000000) && e.m.all (fun x => decide (x.name.length ≤ 1000000) && decide (x.text.length ≤ 1000000)) && e.ns.all (fun x => decide (x.length ≤ 1000000)) && decide (e.m.length ≤ 1000000) && decide (e.ns.length ≤ 1000000) && decide (e.ks.length ≤ 1000000) && decide (-9223372036854775808 ≤ e.v) && decide (e.v ≤ 9223372036854775807) && l.all fun x => x
def smB (e : Ex) : Bool := foldE smG9 e
def smBL : List Ex → Bool
  | [] => true
  | x :: l => smB x && smBL l
theorem smBL_eq : ∀ l, smBL l = l.all smB
  | [] => by rw [smBL]; rfl
  | x :: l => by rw [smBL, smBL_eq l, List.all_cons]
theorem smB_mk (k p : Int) (o : Bool) (v : Int) (s : Str) (m : List Mt) (r : Int) (b1 b2 b3 b4 : Bool) (ns : List Str) (ks : List Ex) : smB ⟨k, p, o, v, s, m, r, b1, b2, b3, b4, ns, ks⟩ = (decide (s.length ≤ 1000000) && m.all (fun x => decide (x.name.length ≤ 1000000) && decide (x.text.length ≤ 1000000)) && ns.all (fun x => decide (x.length ≤ 1000000)) && decide (m.length ≤ 1000000) && decide (ns.length ≤ 1000000) && decide (ks.length ≤ 1000000) && decide (-9223372036854775808 ≤ v) && decide (v ≤ 9223372036854775807) && smBL ks) := by
  have h : smB ⟨k, p, o, v, s, m, r, b1, b2, b3, b4, ns, ks⟩ = smG9 ⟨k, p, o, v, s, m, r, b1, b2, b3, b4, ns, ks⟩ (ks.map smB) := by
    show foldE smG9 _ = _
    rw [foldE_eq]
    rfl
  rw [h, smBL_eq]
  unfold smG9
  rw [List.all_map]
  rfl
theorem smB_ok (e : Ex) : smB e = true → Sm e ∧ Vr e := by
  refine Ex.ind (fun e => smB e = true → Sm e ∧ Vr e) ?_ e
  intro e ih h
  obtain ⟨k, p, o, v, s, m, r, b1, b2, b3, b4, ns, ks⟩ := e
  rw [smB_mk, smBL_eq] at h
  simp only [Bool.and_eq_true, decide_eq_true_eq, List.all_eq_true] at h
  obtain ⟨⟨⟨⟨⟨⟨⟨⟨h1, h2⟩, h3⟩, h4⟩, h5⟩, h6⟩, h7⟩, h8⟩, h9⟩ := h
  refine ⟨(Sm_eq _).2 ⟨?_, ?_, ?_, by show m.length ≤ _; omega, by show ns.length ≤ _; omega, by show ks.length ≤ _; omega, fun x hx => (ih x hx (h9 x hx)).1⟩, (Vr_eq _).2 ⟨⟨h7, h8⟩, fun x hx => (ih x hx (h9 x hx)).2⟩⟩
  · show s.length ≤ _; omega
  · intro x hx
    have := h2 x hx
    exact ⟨by show x.name.length ≤ _; omega, by show x.text.length ≤ _; omega⟩
  · intro x hx
    have := h3 x hx
    show x.length ≤ _
    omega
theorem kSm : smB (psX KT) = true := evE_ok smG9 20 _ _ (by kernel_rfl)
theorem kMets : (mets (psX KT)).length = 3 := by
  unfold mets
  rw [kMet, List.mergeSort_of_pairwise (by decide)]
  kernel_rfl
theorem kPrE : prE (psX KT) = KP := by
  unfold prE
  rw [kIs, kPr]
  rfl
set_option maxHeartbeats 4000000 in
theorem known_any (w : World) (he : Ev w) : Calls Tryz.prog 12 #[] w fun e w' => e = .returned (.bool true) ∧ Below w.heap.size w w' := by
  have hp1 := parse_any KT w (by decide) he
  have hS := smB_ok _ kSm
  have hpr := fun W cs (h : Tr w.heap.size W (psX KT) cs) hE => print9_any h hS.1 hS.2 (by rw [kPr]; decide) hE
  have hme := fun W cs (h : Tr w.heap.size W (psX KT) cs) => metrics_any h hS.1 (by rw [kMet]; decide)
  have his := fun W cs (h : Tr w.heap.size W (psX KT) cs) => isE_any h hS.1
  simp only [kPrE, KP] at hpr
  simp only [kMets] at hme
  simp only [kIs] at his
  rw [kE] at hp1
  clear hS
  generalize psX KT = X at *
  go_enter Tryz.func12, Tryz.ntmps12
  go_wp2_with fail
  refine hp1.mono ?_
  rintro e w1 ⟨cs, rfl, t1, b1⟩
  have he1 := he.later b1
  have q0 := heap_new w1 (.cells zE 29)
  have Ba := bal b1 (.cells zE 29)
  have hp2 := fun W hE => parse_any [40, 97] W (by decide) hE
  simp only [kA, k71] at hp2
  have T1 : Hid _ := t1
  obtain ⟨vm, vn, ao, cap, rfl, sm, sn, _, _⟩ := t1.parts
  obtain ⟨am, cm, rfl, _⟩ := sm
  obtain ⟨an, cn, rfl, _⟩ := sn
  clear hp1
  go_wp2_with (refine wp_put rfl 29 _ _ rfl w1.heap.size (exA X.k X.p X.o X.v X.s (.slice am X.m.length cm) X.r X.b1 X.b2 X.b3 X.b4 (.slice an X.ns.length cn) (.slice ao X.ks.length cap)) rfl rfl _ 29 q0 13 inf29 rfl ⟨rfl, rfl⟩ ?_; intro w2 q2 o2 z2; clear z2)
  have B2 := ((Off.of Ba []).trans o2 (by simp; exact b1.size)).below (by simp)
  have D2 : Below w1.heap.size w1 w2 := ((Off.of (bal (Below.refl w1.heap.size w1) (.cells zE 29)) []).trans o2 (by simp)).below (by simp)
  refine (hp2 w2 (he.later B2)).mono ?_
  rintro e w3 ⟨cs3, rfl, t3, b3⟩
  have row3 := t3.row
  have B3 := B2.trans (b3.mono B2.size)
  have D3 := D2.trans (b3.mono D2.size)
  have q3 := below_heap b3 q2
  have q4 := heap_new w3 (.cells zE 29)
  have q3' := below_heap (bal (Below.refl w3.heap.size w3) (.cells zE 29)) q3
  have hlt := lt_of_heap q3
  have zB := B3.size
  have zD := D3.size
  clear hp2 t3 b3 q0 q2 o2 Ba
  go_wp2_with (refine wp_put rfl 29 _ _ rfl w3.heap.size cs3 rfl rfl _ 29 q4 13 inf29 rfl row3 ?_; intro w5 q5 o5 z5; clear z5; have q6 := o5.heap q3' (by simp <;> omega); have x0 := (cell_at q6 0).trans rfl; have x1 := (cell_at q6 1).trans rfl; have x2 := (cell_at q6 2).trans rfl; have x3 := (cell_at q6 3).trans rfl; have x4 := (cell_at q6 4).trans rfl; have x5 := (cell_at q6 5).trans rfl; have x6 := (cell_at q6 6).trans rfl; have x7 := (cell_at q6 7).trans rfl; have x8 := (cell_at q6 8).trans rfl; have x9 := (cell_at q6 9).trans rfl; have x10 := (cell_at q6 10).trans rfl; have x11 := (cell_at q6 11).trans rfl; have x12 := (cell_at q6 12).trans rfl)
  have B5 := ((Off.of (bal B3 (.cells zE 29)) []).trans o5 (by simp <;> omega)).below (by simp)
  have D5 := ((Off.of (bal D3 (.cells zE 29)) []).trans o5 (by simp <;> omega)).below (by simp)
  refine (hpr w5 _ (TrP.later T1.out D5) (he.later B5)).mono ?_
  rintro e w6 ⟨rfl, b6⟩
  have B6 := B5.trans (b6.mono B5.size)
  have D6 := D5.trans (b6.mono D5.size)
  have q7 := below_heap b6 q6
  clear x0 x1 x2 x3 x4 x5 x6 x7 x8 x9 x10 x11 x12 q5 o5 q4 q3 q3' hpr
  have y0 := (cell_at q7 0).trans rfl
  have y1 := (cell_at q7 1).trans rfl
  have y2 := (cell_at q7 2).trans rfl
  have y3 := (cell_at q7 3).trans rfl
  have y4 := (cell_at q7 4).trans rfl
  have y5 := (cell_at q7 5).trans rfl
  have y6 := (cell_at q7 6).trans rfl
  have y7 := (cell_at q7 7).trans rfl
  have y8 := (cell_at q7 8).trans rfl
  have y9 := (cell_at q7 9).trans rfl
  have y10 := (cell_at q7 10).trans rfl
  have y11 := (cell_at q7 11).trans rfl
  have y12 := (cell_at q7 12).trans rfl
  go_wp2_with fail
  refine (hme w6 _ (TrP.later T1.out D6)).mono ?_
  rintro e w7 ⟨v7, rfl, s7, b7⟩
  obtain ⟨a7, c7, rfl, _⟩ := s7
  have B7 := B6.trans (b7.mono B6.size)
  have D7 := D6.trans (b7.mono D6.size)
  have q8 := below_heap b7 q7
  clear y0 y1 y2 y3 y4 y5 y6 y7 y8 y9 y10 y11 y12 hme
  have z0 := (cell_at q8 0).trans rfl
  have z1 := (cell_at q8 1).trans rfl
  have z2 := (cell_at q8 2).trans rfl
  have z3 := (cell_at q8 3).trans rfl
  have z4 := (cell_at q8 4).trans rfl
  have z5 := (cell_at q8 5).trans rfl
  have z6 := (cell_at q8 6).trans rfl
  have z7 := (cell_at q8 7).trans rfl
  have z8 := (cell_at q8 8).trans rfl
  have z9 := (cell_at q8 9).trans rfl
  have z10 := (cell_at q8 10).trans rfl
  have z11 := (cell_at q8 11).trans rfl
  have z12 := (cell_at q8 12).trans rfl
  go_wp2_with fail
  refine (his w7 _ (TrP.later T1.out D7)).mono ?_
  rintro e w8 ⟨rfl, b8⟩
  have B8 := B7.trans (b8.mono B7.size)
  go_wp2_with fail
  go_ret
  exact ⟨rfl, B8⟩
end Go.Proofs.YteankdaegdhfiaaGreatDoor
