/- Texts that the others lean on. -/
import Derived.BigQuiet
import Derived.Laws.StructEq
import Derived.Test.YteankdaegdhfiaaGreatDoorKXRefNum
import Derived.Test.YteankdaegdhfiaaGreatDoorKMX
import Derived.Test.YteankdaegdhfiaaGreatDoorKXRefSg
namespace Go.Proofs.YteankdaegdhfiaaGreatDoor
open Go.RowKit
theorem BoxT.put6 {w : World} {b : Nat} {x : Tk} (h : BoxT w b x) (y : Tk) : BoxT (set6 w b (.int .i64 y.k) (.int .i64 y.p) (tx y.t) (.bool y.o) (.int .i64 y.n) (.int .i64 y.d)) b y := by
 obtain ⟨c0, c1, c2, c3, c4, c5, f0, f1, f2, f3, f4, f5⟩ := h
 constructor <;> simp [go_sem, c0, c1, c2, c3, c4, c5, f0, f1, f2, f3, f4, f5]
/-- What the reference's token answers. -/
def TkIs (s : Str) (x : Tk) (k : Nat) : Prop := tok s = some (x, k) ∨ (tok s = none ∧ k = 0)
theorem tkIs_rt {s : Str} {o : Option (Tk × Nat)} (h : tok s = o) : TkIs s (o.getD (tk0, 0)).1 (o.getD (tk0, 0)).2 := by
 unfold TkIs
 rw [h]
 cases o with
 | none => exact Or.inr ⟨rfl, rfl⟩
 | some y => exact Or.inl rfl
theorem lett_not {c : UInt8} (h : lettB c = true) : digB c = false := by
 unfold lettB letB at h
 unfold digB
 simp at *
 omega
theorem ident_tok {s : Str} {k : Nat} (h0 : lettB (s.headD 0) = true) (hk : idN s = k) (h1 : 1 ≤ k) : tok s = if k ≤ 20 then some (tIdent (s.take k), k) else none := by
 have hd := lett_not h0
 have hn : nameCh (s.headD 0) = true := by rw [name_or, h0]; rfl
 have hle := idN_le s
 have hl : (s.take k).length = k := by rw [List.length_take]; omega
 have hall : (s.take k).all nameCh = true := by
  rw [List.all_eq_true]
  intro x hx
  rw [← hk] at hx
  exact run_all x hx
 have hh : (s.take k).headD 0 = s.headD 0 := by
  cases s with
  | nil => simp at hl; omega
  | cons c r =>
   obtain ⟨j, rfl⟩ : ∃ j, k = j + 1 := ⟨k - 1, by omega⟩
   rfl
 unfold tok
 rw [if_neg (by rw [hd]; simp), if_pos hn, hk]
 unfold tkId fName
 rw [hl, hall, hh, hd, decide_eq_true h1]
 by_cases h20 : k ≤ 20
 ·
  rw [decide_eq_true h20, if_pos h20]
  rfl
 ·
  rw [decide_eq_false h20, if_neg h20]
  rfl
theorem quote_tok {s : Str} (h : s.headD 0 = 34) (h0 : s.head? = some 34) : (30 < (qText s).length → tok s = none) ∧ ((qText s).length ≤ 30 → TkIs s (tText (qText s)) (qLen s)) := by
 have ht : tok s = tkTx s := by
  unfold tok
  rw [h, if_neg (by decide), if_neg (by decide), if_pos rfl]
 unfold TkIs
 rw [ht]
 unfold tkTx
 cases hq : qd s.tail with
 | none =>
  obtain ⟨e1, e2⟩ := q_none (s := s) (by rw [List.drop_one]; exact hq)
  rw [e1, e2]
  exact ⟨fun _ => rfl, fun _ => Or.inr ⟨rfl, rfl⟩⟩
 | some y =>
  obtain ⟨e1, e2⟩ := q_some h0 (by rw [List.drop_one]; exact hq)
  rw [e1, e2]
  refine ⟨fun hl => ?_, fun hl => Or.inl ?_⟩
  ·
   simp only
   rw [if_neg (by omega)]
  ·
   simp only
   rw [if_pos hl]
set_option maxHeartbeats 16000000 in
set_option maxRecDepth 20000 in
theorem refToken_any (s : Str) (w : World) (hs : s.length ≤ 1000) (hpos : 0 < s.length) : Calls Tryz.prog 62 #[tx s] w fun e w' => ∃ x k, e = .returned (.tuple #[tv x, .int .i64 (k : Nat)]) ∧ TkIs s x k ∧ Below w.heap.size w w' := by
 have hb0 : Below w.heap.size w (w.alloc (.cells #[.int .i64 0, .int .i64 0, .string ⟨#[]⟩, .bool false, .int .i64 0, .int .i64 0] 39)) := bal (Below.refl _ _) _
 have hx := BoxT.new0 w
 have hbk := ba_lt hpos
 have hne : s ≠ [] := List.length_pos_iff.1 hpos
 have HH := headD_at hpos
 have hlt := fun c W => letter_any c W
 have hdg := fun c W => rdigit_any c W
 have hl0 := hlt ((⟨s.toArray⟩ : ByteArray)[0]'hbk)
 have hd0 := hdg ((⟨s.toArray⟩ : ByteArray)[0]'hbk)
 cases hlc : lettB ((⟨s.toArray⟩ : ByteArray)[0]'hbk) with
 | true =>
  rw [hlc] at hl0
  have HID : Hid (∀ k, idN s = k → 1 ≤ k → tok s = if k ≤ 20 then some (tIdent (s.take k), k) else none) := fun k hk h1 => ident_tok (by rw [HH]; exact hlc) hk h1
  have HN0 : Hid (nameCh s[0] = true) := by show nameCh ((⟨s.toArray⟩ : ByteArray)[0]'hbk) = true; rw [name_or, hlc]; rfl
  clear hlc HH hd0 hne
  go_enter Tryz.func62, Tryz.ntmps62
  go_wp2_with fail
  refine (hl0 _).mono ?_
  rintro e w1 ⟨rfl, rfl⟩
  go_wp2_with fail
  go_loop [4] (fun i => ∃ k : Nat, k ≤ s.length ∧ i = .int .i64 k ∧ Hid (∀ i (hi : i < s.length), i < k → nameCh s[i] = true)) (fun i => s.length - (intOf i).toNat)
  case atStart => exact ⟨0, by omega, rfl, fun i h h2 => by omega⟩
  case round =>
   obtain ⟨k, hk, rfl, ha⟩ := hrel
   have fin : idN s = k → 1 ≤ k → Hid (1 ≤ k ∧ (k ≤ 20 → tok s = some (tIdent (s.take k), k)) ∧ (20 < k → tok s = none)) := fun e h1 => ⟨h1, fun h => by rw [HID.out k e h1, if_pos h], fun h => by rw [HID.out k e h1, if_neg (by omega)]⟩
   have one : ∀ e : idN s = k, 1 ≤ k := fun e => by
    rw [← e]
    unfold idN
    rw [List.drop_zero.symm.trans (List.drop_eq_getElem_cons hpos)]
    rw [List.takeWhile_cons_of_pos HN0.out]
    simp
   have hex : (⟨s.toArray⟩ : ByteArray).extract 0 k = ⟨(s.take k).toArray⟩ := Fx.ba_take s k
   have hkl : (k : Int) ≤ s.length := by omega
   by_cases hltk : k < s.length
   ·
    have hbk2 := ba_lt hltk
    have HC : Hid (s[k] = (⟨s.toArray⟩ : ByteArray)[k]'hbk2) := rfl
    have hlk := hlt ((⟨s.toArray⟩ : ByteArray)[k]'hbk2)
    have hdk := hdg ((⟨s.toArray⟩ : ByteArray)[k]'hbk2)
    have HOR := name_or ((⟨s.toArray⟩ : ByteArray)[k]'hbk2)
    have step : nameCh ((⟨s.toArray⟩ : ByteArray)[k]'hbk2) = true → Hid (∀ i (hi : i < s.length), i < k + 1 → nameCh s[i] = true) := fun hc i hi h => by
     by_cases e : i = k
     ·
      subst e; rw [HC.out]; exact hc
     ·
      exact ha.out i hi (by omega)
    cases hc1 : lettB ((⟨s.toArray⟩ : ByteArray)[k]'hbk2) with
    | true =>
     rw [hc1] at hlk HOR
     have HR := step HOR
     clear ha HC hc1 HOR step fin one hdk hex
     go_wp2_with fail
     refine (hlk _).mono ?_
     rintro e w1 ⟨rfl, rfl⟩
     go_wp2
     go_round
     case rel => exact ⟨k + 1, by omega, by go_num, HR⟩
     case measure => simp [intOf]; omega
    | false =>
     rw [hc1] at hlk HOR
     cases hc2 : digB ((⟨s.toArray⟩ : ByteArray)[k]'hbk2) with
     | true =>
      rw [hc2] at hdk HOR
      have HR := step HOR
      clear ha HC hc1 hc2 HOR step fin one hex
      go_wp2_with fail
      refine (hlk _).mono ?_
      rintro e w1 ⟨rfl, rfl⟩
      go_wp2_with fail
      refine (hdk _).mono ?_
      rintro e w1 ⟨rfl, rfl⟩
      go_wp2
      go_round
      case rel => exact ⟨k + 1, by omega, by go_num, HR⟩
      case measure => simp [intOf]; omega
     | false =>
      rw [hc2] at hdk HOR
      have e : idN s = k := run_len hk ha.out (fun _ => by rw [HC.out]; exact HOR)
      have HF := fin e (one e)
      clear ha HC hc1 hc2 HOR step fin one e
      by_cases h20 : 20 < k
      ·
       have h20' : (20 : Int) < k := by omega
       have HT : Hid (TkIs s tk0 0) := Or.inr ⟨HF.out.2.2 h20, rfl⟩
       clear HF h20
       go_wp2_with fail
       refine (hlk _).mono ?_
       rintro e w1 ⟨rfl, rfl⟩
       go_wp2_with fail
       refine (hdk _).mono ?_
       rintro e w1 ⟨rfl, rfl⟩
       go_wp2
       exact bodyPost_ret (v := .tuple #[.agg #[.int .i64 0, .int .i64 0, .string ⟨#[]⟩, .bool false, .int .i64 0, .int .i64 0], .int .i64 0]) (by simp [results, Tryz.results62, go_sem]) rfl ⟨tk0, 0, rfl, HT.out, bal (Below.refl _ _) _⟩
      ·
       have h20' : ¬ (20 : Int) < k := by omega
       have HT : Hid (TkIs s (tIdent (s.take k)) k) := Or.inl (HF.out.2.1 (by omega))
       clear HF h20
       generalize s.take k = u at *
       go_wp2_with fail
       refine (hlk _).mono ?_
       rintro e w1 ⟨rfl, rfl⟩
       go_wp2_with fail
       refine (hdk _).mono ?_
       rintro e w1 ⟨rfl, rfl⟩
       go_wp2
       exact bodyPost_ret (v := .tuple #[tv (tIdent u), .int .i64 (k : Nat)]) (by simp [results, Tryz.results62, go_sem, tIdent]) rfl ⟨tIdent u, k, rfl, HT.out, bal (Below.refl _ _) _⟩
   ·
    have e : idN s = k := run_len hk ha.out (fun h => absurd h hltk)
    have HF := fin e (one e)
    clear ha fin one e
    by_cases h20 : 20 < k
    ·
     have h20' : (20 : Int) < k := by omega
     have HT : Hid (TkIs s tk0 0) := Or.inr ⟨HF.out.2.2 h20, rfl⟩
     clear HF h20
     go_wp2
     exact bodyPost_ret (v := .tuple #[.agg #[.int .i64 0, .int .i64 0, .string ⟨#[]⟩, .bool false, .int .i64 0, .int .i64 0], .int .i64 0]) (by simp [results, Tryz.results62, go_sem]) rfl ⟨tk0, 0, rfl, HT.out, bal (Below.refl _ _) _⟩
    ·
     have h20' : ¬ (20 : Int) < k := by omega
     have HT : Hid (TkIs s (tIdent (s.take k)) k) := Or.inl (HF.out.2.1 (by omega))
     clear HF h20
     generalize s.take k = u at *
     go_wp2
     exact bodyPost_ret (v := .tuple #[tv (tIdent u), .int .i64 (k : Nat)]) (by simp [results, Tryz.results62, go_sem, tIdent]) rfl ⟨tIdent u, k, rfl, HT.out, bal (Below.refl _ _) _⟩
 | false =>
  rw [hlc] at hl0
  cases hdc : digB ((⟨s.toArray⟩ : ByteArray)[0]'hbk) with
  | true =>
   rw [hdc] at hd0
   have ha := refNumber_any s (w.alloc (.cells #[.int .i64 0, .int .i64 0, .string ⟨#[]⟩, .bool false, .int .i64 0, .int .i64 0] 39)) hs
   have HT : Hid (TkIs s ((tkAmt s).getD (tk0, 0)).1 ((tkAmt s).getD (tk0, 0)).2) := tkIs_rt (by unfold tok; rw [if_pos (by rw [HH]; exact hdc)])
   clear HH hdc hlc hne hlt hdg
   generalize tkAmt s = o at *
   go_enter Tryz.func62, Tryz.ntmps62
   go_wp2_with fail
   refine (hl0 _).mono ?_
   rintro e w1 ⟨rfl, rfl⟩
   go_wp2_with fail
   refine (hd0 _).mono ?_
   rintro e w1 ⟨rfl, rfl⟩
   go_wp2_with fail
   refine ha.mono ?_
   rintro e w1 ⟨rfl, hb1⟩
   obtain ⟨c0, c1, c2, c3, c4, c5, f0, f1, f2, f3, f4, f5⟩ := hx.later hb1
   go_wp2
   exact bodyPost_ret (v := rt o) (by simp [results, Tryz.results62, go_sem, c0, c1, c2, c3, c4, c5]) rfl ⟨_, _, rfl, HT.out, below6 (Below.chain hb0 hb1) (Nat.le_refl _) _ _ _ _ _ _⟩
  | false =>
   rw [hdc] at hd0
   have hnc : nameCh ((⟨s.toArray⟩ : ByteArray)[0]'hbk) = false := by rw [name_or, hlc, hdc]; rfl
   by_cases hq : ((((⟨s.toArray⟩ : ByteArray)[0]'hbk)).toNat : Int) = 34
   ·
    have hq' : (((((⟨s.toArray⟩ : ByteArray)[0]'hbk)).toNat : Int) == 34) = true := beq_iff_eq.2 hq
    have e34 : s.headD 0 = 34 := by rw [HH]; exact byte_eq (k := 34) (by decide) hq
    have e35 : s.head? = some 34 := by rw [head_at hpos]; congr 1; exact byte_eq (k := 34) (by decide) hq
    have HQ : Hid _ := quote_tok e34 e35
    have ha := quoted_any s (w.alloc (.cells #[.int .i64 0, .int .i64 0, .string ⟨#[]⟩, .bool false, .int .i64 0, .int .i64 0] 39)) (by omega)
    clear HH hdc hlc hnc hne hq e34 e35 hlt hdg
    generalize qText s = u at *
    generalize qLen s = k at *
    by_cases h30 : 30 < u.length
    ·
     have h30' : (30 : Int) < u.length := by omega
     have HT : Hid (TkIs s tk0 0) := Or.inr ⟨HQ.out.1 h30, rfl⟩
     clear HQ h30
     go_enter Tryz.func62, Tryz.ntmps62
     go_wp2_with fail
     refine (hl0 _).mono ?_
     rintro e w1 ⟨rfl, rfl⟩
     go_wp2_with fail
     refine (hd0 _).mono ?_
     rintro e w1 ⟨rfl, rfl⟩
     go_wp2_with fail
     refine ha.mono ?_
     rintro e w1 ⟨rfl, hb1⟩
     obtain ⟨c0, c1, c2, c3, c4, c5, f0, f1, f2, f3, f4, f5⟩ := hx.later hb1
     go_wp2
     exact bodyPost_ret (v := .tuple #[.agg #[.int .i64 0, .int .i64 0, .string ⟨#[]⟩, .bool false, .int .i64 0, .int .i64 0], .int .i64 0]) (by simp [results, Tryz.results62, go_sem, c0, c1, c2, c3, c4, c5]) rfl ⟨tk0, 0, rfl, HT.out, below6 (Below.chain hb0 hb1) (Nat.le_refl _) _ _ _ _ _ _⟩
    ·
     have h30' : ¬ (30 : Int) < u.length := by omega
     have HT : Hid (TkIs s (tText u) k) := HQ.out.2 (by omega)
     clear HQ h30
     go_enter Tryz.func62, Tryz.ntmps62
     go_wp2_with fail
     refine (hl0 _).mono ?_
     rintro e w1 ⟨rfl, rfl⟩
     go_wp2_with fail
     refine (hd0 _).mono ?_
     rintro e w1 ⟨rfl, rfl⟩
     go_wp2_with fail
     refine ha.mono ?_
     rintro e w1 ⟨rfl, hb1⟩
     obtain ⟨c0, c1, c2, c3, c4, c5, f0, f1, f2, f3, f4, f5⟩ := hx.later hb1
     go_wp2
     exact bodyPost_ret (v := .tuple #[tv (tText u), .int .i64 (k : Nat)]) (by simp [results, Tryz.results62, go_sem, tText, c0, c1, c2, c3, c4, c5]) rfl ⟨tText u, k, rfl, HT.out, below6 (Below.chain hb0 hb1) (Nat.le_refl _) _ _ _ _ _ _⟩
   ·
    have hq' : (((((⟨s.toArray⟩ : ByteArray)[0]'hbk)).toNat : Int) == 34) = false := beq_eq_false_iff_ne.2 hq
    have HTS : Hid (tok s = tkSg s) := by show _ = _; unfold tok; rw [if_neg (by rw [HH, hdc]; simp), if_neg (by rw [HH, hnc]; simp), if_neg (by rw [HH]; exact byte_ne (k := 34) (by decide) hq)]
    have HNE : Hid (s ≠ []) := hne
    clear HH hdc hlc hnc hq hne hlt hdg
    go_enter Tryz.func62, Tryz.ntmps62
    go_wp2_with fail
    refine (hl0 _).mono ?_
    rintro e w1 ⟨rfl, rfl⟩
    go_wp2_with fail
    refine (hd0 _).mono ?_
    rintro e w1 ⟨rfl, rfl⟩
    go_wp2_with fail
    refine (signs_any _).mono ?_
    rintro e w1 ⟨cs, rfl, hcs, hb1⟩
    have hx1 := hx.later hb1
    have B1 := Below.chain hb0 hb1
    go_wp2_with (refine wp_store45r (w2 := w1) rfl _ _ rfl cs hcs rfl rfl ?_; intro w2 HROW hb2)
    have HX2 : Hid (BoxT w2 w.heap.size tk0) := hx1.later hb2
    have B2 := Below.chain B1 hb2
    have hgw : w.heap.size ≠ w1.heap.size := by have := hx1.lt; omega
    clear hx1 hx hb1 hb2 hb0 B1 hl0 hd0
    generalize w1.heap.size = gS at *
    go_wp2_with fail
    go_loopw [8] (fun i wr => ∃ (j : Nat), j ≤ 22 ∧ i = .int .i64 j ∧ Hid (∀ i, i < j → ¬ MtS s i) ∧ Below w2.heap.size w2 wr) (fun i _ => 22 - (intOf i).toNat)
    case atStart => exact ⟨0, by omega, rfl, fun i h => by omega, Below.refl _ _⟩
    case round =>
     obtain ⟨j, hj, rfl, HB, hbr⟩ := hrel
     have HBX : Hid (BoxT wr w.heap.size tk0) := HX2.out.later hbr
     by_cases hlj : j < 22
     ·
      have HR5 : Hid (World.rowIs wr gS 148 22 sgV) := World.rowIs.of_block HROW.out (hbr.block gS (World.rowIs.lt HROW.out))
      have hcell := World.rowIs.cell HR5.out hlj
      have HV : sgV j = tx (sgL.getD j []) := rfl
      rw [HV] at hcell
      clear HV HR5
      have HM : Hid (MtS s j ↔ (sgL.getD j [] ≠ [] ∧ (sgL.getD j []).length ≤ s.length ∧ s.take (sgL.getD j []).length = sgL.getD j [])) := Iff.rfl
      have HHIT0 : Hid (MtS s j → TkIs s (tSign (sgL.getD j [])) (sgL.getD j []).length) := fun h => Or.inl (by rw [HTS.out]; exact sg_hit hlj HB.out h)
      have HNX : Hid (¬ MtS s j → ∀ i, i < j + 1 → ¬ MtS s i) := fun h i hi => by
       by_cases e : i = j
       ·
        subst e; exact h
       ·
        exact HB.out i (by omega)
      have hjl : (j : Int) < 22 := by omega
      have HTL : Hid ((sgL.getD j []).length ≤ 2) := sg_le j
      generalize sgL.getD j [] = T at *
      have hexT : (⟨s.toArray⟩ : ByteArray).extract 0 T.length = ⟨(s.take T.length).toArray⟩ := Fx.ba_take s T.length
      by_cases hT : T = []
      ·
       have HN := HNX.out (fun h => (HM.out.1 h).1 hT)
       have HN' : Hid _ := HN
       subst hT
       clear HM HHIT0 HNX HB HN hexT
       go_wp2
       go_quiet (fail)
       go_wp2
       go_roundw
       case rel => exact ⟨j + 1, by omega, by go_num, HN', Fx.below_drewN hbr _⟩
       case measure => simp [intOf]; omega
      ·
       have t1 : (T != []) = true := by rw [bne_iff_ne]; exact hT
       have t2 : (T == []) = false := by rw [beq_eq_false_iff_ne]; exact hT
       have t3 : T.isEmpty = false := by cases T with | nil => exact absurd rfl hT | cons c q => rfl
       by_cases hle : T.length ≤ s.length
       ·
        have hle' : (T.length : Int) ≤ s.length := by omega
        by_cases heq : s.take T.length = T
        ·
         have HHIT : Hid _ := HHIT0.out (HM.out.2 ⟨hT, hle, heq⟩)
         rw [heq] at hexT
         clear HM HHIT0 HNX HB hT hle heq
         go_wp2
         go_quiet (fail)
         have hcell : (World.drewN wr nq).cell? ⟨gS, j, none⟩ = some (tx T) := hcell
         have BQ : Below w.heap.size w (World.drewN wr nq) := Fx.below_drewN (Below.chain B2 hbr) _
         have HBX : Hid (BoxT (World.drewN wr nq) w.heap.size tk0) := HBX.out.later (Fx.below_drewN (Below.refl _ _) _)
         go_upto_region 20 with fail
         generalize World.drewN wr nq = wq at *
         have C0 : (World.drew wq).cell? ⟨gS, j, none⟩ = some (tx T) := hcell
         have zb := HBX.out.later (Below.refl wq.heap.size wq).drew
         have BD := Below.chain BQ (Below.refl wq.heap.size wq).drew
         refine wp_region_noPanic ?_
         refine wp_region_held_drew (S := fun W => W.cell? ⟨gS, j, none⟩ = some (tx T)) (by kernel_rfl) ?_ (fun _ => ?_)
         ·
          exact C0
         generalize wq.drew = wd at *
         refine tk 0 93 (.int .i64 (j : Nat)) rfl (fun W hSw => by go_simp) C0 ?_
         simp only [Act.put, pB, pC, pD]
         refine tk 1 94 (.pointer (some ⟨gS, j, none⟩)) rfl (fun W hSw => by go_simp) C0 ?_
         simp only [Act.put, pB, pC, pD]
         refine tk 2 95 (tx T) rfl (fun W hSw => by go_simp) C0 ?_
         simp only [Act.put, pB, pC, pD]
         refine tk 3 96 (.agg #[.int .i64 5, .int .i64 0, tx T, .bool false, .int .i64 0, .int .i64 0]) rfl (fun W hSw => by go_simp) C0 ?_
         simp only [Act.put, pB, pC, pD]
         refine tk 4 97 (.int .i64 (j : Nat)) rfl (fun W hSw => by go_simp) C0 ?_
         simp only [Act.put, pB, pC, pD]
         refine tk 5 98 (.pointer (some ⟨gS, j, none⟩)) rfl (fun W hSw => by go_simp) C0 ?_
         simp only [Act.put, pB, pC, pD]
         refine tk 6 99 (tx T) rfl (fun W hSw => by go_simp) C0 ?_
         simp only [Act.put, pB, pC, pD]
         refine tk 7 100 (.int .i64 (T.length : Nat)) rfl (fun W hSw => by go_simp) C0 ?_
         simp only [Act.put, pB, pC, pD]
         refine wpAnyH_ready (rs := [8]) (by kernel_rfl) (by simp) ?_
         refine AllReadyH.cons rfl (fun K hK => ?_) AllReadyH.nil
         have q8 : BoxT (World.setCell (World.setCell (World.setCell (World.setCell (World.setCell (World.setCell wd ⟨w.heap.size, 0, none⟩ (.int .i64 5)) ⟨w.heap.size, 1, none⟩ (.int .i64 0)) ⟨w.heap.size, 2, none⟩ (.string ⟨T.toArray⟩)) ⟨w.heap.size, 3, none⟩ (.bool false)) ⟨w.heap.size, 4, none⟩ (.int .i64 0)) ⟨w.heap.size, 5, none⟩ (.int .i64 0)) w.heap.size (tSign T) := zb.put6 (tSign T)
         have D3 : Below w.heap.size w (World.setCell (World.setCell (World.setCell (World.setCell (World.setCell (World.setCell wd ⟨w.heap.size, 0, none⟩ (.int .i64 5)) ⟨w.heap.size, 1, none⟩ (.int .i64 0)) ⟨w.heap.size, 2, none⟩ (.string ⟨T.toArray⟩)) ⟨w.heap.size, 3, none⟩ (.bool false)) ⟨w.heap.size, 4, none⟩ (.int .i64 0)) ⟨w.heap.size, 5, none⟩ (.int .i64 0)) := below6 BD (Nat.le_refl _) (.int .i64 5) (.int .i64 0) (tx T) (.bool false) (.int .i64 0) (.int .i64 0)
         have D5 : World.cell? (World.setCell (World.setCell (World.setCell (World.setCell (World.setCell (World.setCell wd ⟨w.heap.size, 0, none⟩ (.int .i64 5)) ⟨w.heap.size, 1, none⟩ (.int .i64 0)) ⟨w.heap.size, 2, none⟩ (.string ⟨T.toArray⟩)) ⟨w.heap.size, 3, none⟩ (.bool false)) ⟨w.heap.size, 4, none⟩ (.int .i64 0)) ⟨w.heap.size, 5, none⟩ (.int .i64 0)) ⟨gS, j, none⟩ = some (tx T) := grown_cell (grown6 wd w.heap.size (.int .i64 5) (.int .i64 0) (tx T) (.bool false) (.int .i64 0) (.int .i64 0)) C0 (fun e => hgw (by injection e with e; exact e.symm))
         have c0 := zb.c0
         have c1 := zb.c1
         have c2 := zb.c2
         have c3 := zb.c3
         have c4 := zb.c4
         have c5 := zb.c5
         have f0 := zb.f0
         have f1 := zb.f1
         have f2 := zb.f2
         have f3 := zb.f3
         have f4 := zb.f4
         have f5 := zb.f5
         go_simp
         clear c0 c1 c2 c3 c4 c5 f0 f1 f2 f3 f4 f5 zb C0 BD
         generalize (World.setCell (World.setCell (World.setCell (World.setCell (World.setCell (World.setCell wd ⟨w.heap.size, 0, none⟩ (.int .i64 5)) ⟨w.heap.size, 1, none⟩ (.int .i64 0)) ⟨w.heap.size, 2, none⟩ (.string ⟨T.toArray⟩)) ⟨w.heap.size, 3, none⟩ (.bool false)) ⟨w.heap.size, 4, none⟩ (.int .i64 0)) ⟨w.heap.size, 5, none⟩ (.int .i64 0)) = y3 at *
         refine hK.out _ _ ?_ (fun _ => ?_)
         ·
          exact D5
         clear hK K
         refine tk 9 3 (.int .i64 (T.length : Nat)) rfl (fun W hSw => by go_simp) D5 ?_
         simp only [Act.put, pB, pC, pD]
         refine wpAnyH_done (by kernel_rfl) ?_ _
         refine NoPanic.normal ?_
         obtain ⟨c0, c1, c2, c3, c4, c5, _, _, _, _, _, _⟩ := q8
         go_wp2
         exact bodyPost_ret (v := .tuple #[tv (tSign T), .int .i64 (T.length : Nat)]) (by simp [results, Tryz.results62, go_sem, c0, c1, c2, c3, c4, c5]) rfl ⟨tSign T, T.length, rfl, HHIT.out, D3⟩
        ·
         have HN := HNX.out (fun h => heq (HM.out.1 h).2.2)
         have HN' : Hid _ := HN
         generalize hU : s.take T.length = U at *
         have u1 : (U == T) = false := by rw [beq_eq_false_iff_ne]; exact heq
         clear HM HHIT0 HNX HB HN hT hle heq hU
         go_wp2
         go_quiet (fail)
         go_wp2
         go_roundw
         case rel => exact ⟨j + 1, by omega, by go_num, HN', Fx.below_drewN hbr _⟩
         case measure => simp [intOf]; omega
       ·
        have hTl := HTL.out
        have hT2 : (T.length : Int) = 2 := by omega
        have hs1 : (s.length : Int) = 1 := by omega
        have HN := HNX.out (fun h => hle (HM.out.1 h).2.1)
        have HN' : Hid _ := HN
        clear HM HHIT0 HNX HB HN hT hle hexT hTl HTL
        go_wp2
        go_quiet (fail)
        go_wp2
        go_roundw
        case rel => exact ⟨j + 1, by omega, by go_num, HN', Fx.below_drewN hbr _⟩
        case measure => simp [intOf]; omega
     ·
      obtain rfl : j = 22 := by omega
      have HT : Hid (TkIs s tk0 0) := Or.inr ⟨by rw [HTS.out]; exact sg_miss HNE.out HB.out, rfl⟩
      clear HB
      obtain ⟨c0, c1, c2, c3, c4, c5, f0, f1, f2, f3, f4, f5⟩ := HBX.out
      go_wp2
      exact bodyPost_ret (v := .tuple #[.agg #[.int .i64 0, .int .i64 0, .string ⟨#[]⟩, .bool false, .int .i64 0, .int .i64 0], .int .i64 0]) (by simp [results, Tryz.results62, go_sem, c0, c1, c2, c3, c4, c5]) rfl ⟨tk0, 0, rfl, HT.out, below6 (Below.chain B2 hbr) (Nat.le_refl _) _ _ _ _ _ _⟩
end Go.Proofs.YteankdaegdhfiaaGreatDoor
