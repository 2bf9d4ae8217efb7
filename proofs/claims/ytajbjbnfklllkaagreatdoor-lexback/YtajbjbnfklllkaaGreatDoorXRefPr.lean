/- The reference's PrintTokens: of tokens within bounds. -/
import Derived.Test.YtajbjbnfklllkaaGreatDoorXBackP
import Derived.Test.YtajbjbnfklllkaaGreatDoorBaseG
namespace Go.Proofs.YtajbjbnfklllkaaGreatDoor
open Go.RowKit

structure FineR (x : Tk) : Prop where
  t : x.t.length ≤ 1000
  n0 : -9223372036854775808 ≤ x.n
  n1 : x.n ≤ 9223372036854775807
  d0 : 0 ≤ x.d
  d1 : x.d ≤ 9223372036854775807
theorem pr_kinds (x : Tk) : ((x.k = 1 ∨ x.k = 5) ∧ prT x = x.t) ∨ (x.k = 2 ∧ prT x = Fx.fPrint (Fx.cnt x.o x.n)) ∨ (x.k = 3 ∧ prT x = Lib.itoa x.d ++ [116]) ∨ (x.k = 4 ∧ prT x = [34] ++ esc x.t ++ [34]) ∨ (x.k ≠ 1 ∧ x.k ≠ 5 ∧ x.k ≠ 2 ∧ x.k ≠ 3 ∧ x.k ≠ 4 ∧ prT x = []) := by
  unfold prT
  by_cases h1 : x.k = 1 ∨ x.k = 5
  · exact Or.inl ⟨h1, by rw [if_pos h1]⟩
  · by_cases h2 : x.k = 2
    · exact Or.inr (Or.inl ⟨h2, by rw [if_neg h1, if_pos h2]⟩)
    · by_cases h3 : x.k = 3
      · exact Or.inr (Or.inr (Or.inl ⟨h3, by rw [if_neg h1, if_neg h2, if_pos h3]⟩))
      · by_cases h4 : x.k = 4
        · exact Or.inr (Or.inr (Or.inr (Or.inl ⟨h4, by rw [if_neg h1, if_neg h2, if_neg h3, if_pos h4]⟩)))
        · exact Or.inr (Or.inr (Or.inr (Or.inr ⟨fun e => h1 (Or.inl e), fun e => h1 (Or.inr e), h2, h3, h4, by rw [if_neg h1, if_neg h2, if_neg h3, if_neg h4]⟩)))
set_option maxHeartbeats 8000000 in
theorem refPrint_any (ao : Option Addr) (n cap : Nat) (l : List Tk) (w : World) (hn : n ≤ 10000) (hts : Ts w ao n l) (hf : ∀ x ∈ l, FineR x) (hsum : (l.map fun x => (prT x).length).sum ≤ 20000) :
    Calls Tryz.prog 13 #[.slice ao n cap] w fun e w' => e = .returned (tx (prL l)) ∧ Below w.heap.size w w' := by
  have HLN : Hid (l.length = n) := hts.1
  have HF : Hid (∀ x ∈ l, FineR x) := hf
  have HL : Hid (∀ j, (prL (l.take j)).length ≤ 30000) := fun j => by have := prL_take_len l j; have := HLN.out; omega
  have HT : Hid (∀ j, j < l.length → (prT (l.getD j tk0)).length ≤ 30000) := fun j hj => by
    have h1 := prL_take_len l (j + 1)
    by_cases e : prT (l.getD j tk0) = []
    · rw [e]; simp
    · have h2 := HL.out (j + 1)
      by_cases e0 : prL (l.take j) = []
      · rw [prL_first hj e e0] at h2; exact h2
      · rw [prL_next hj e e0, List.length_append, List.length_cons] at h2
        omega
  clear hf hsum
  go_enter Tryz.func13, Tryz.ntmps13
  go_wp2_with fail
  go_loopw [4, 3] (fun i u wr => ∃ (j : Nat) (S : Str), j ≤ n ∧ i = .int .i64 j ∧ u = tx S ∧ Hid (prL (l.take j) = S) ∧ S.length ≤ 30000 ∧ Below w.heap.size w wr) (fun i _ _ => n - (intOf i).toNat)
  case atStart => exact ⟨0, [], by omega, rfl, rfl, rfl, by simp, Below.refl _ _⟩
  case round =>
    obtain ⟨j, S, hjn, rfl, rfl, HP, hsl, hb⟩ := hrel
    by_cases hlt : j < n
    · have hjl : j < l.length := by rw [HLN.out]; exact hlt
      obtain ⟨b1, o1, rfl, _⟩ := hts.2 (by omega)
      obtain ⟨k0, k1, k2, k3, k4, k5⟩ := (hts.later hb).at j hlt
      have HS : Hid (prT (l.getD j tk0) = [] → prL (l.take (j + 1)) = S) := fun e => by rw [prL_skip hjl e]; exact HP.out
      have HFi : Hid (prT (l.getD j tk0) ≠ [] → S = [] → prL (l.take (j + 1)) = prT (l.getD j tk0)) := fun e e0 => prL_first hjl e (by rw [HP.out]; exact e0)
      have HN : Hid (prT (l.getD j tk0) ≠ [] → S ≠ [] → prL (l.take (j + 1)) = S ++ 32 :: prT (l.getD j tk0)) := fun e e0 => by rw [prL_next hjl e (by rw [HP.out]; exact e0), HP.out]
      have hfx := HF.out (l.getD j tk0) (by rw [getT_at hjl]; exact List.getElem_mem hjl)
      have htl := HT.out j hjl
      clear HF HT
      have HF := HFi
      clear HFi
      have hk := pr_kinds (l.getD j tk0)
      generalize l.getD j tk0 = x at *
      obtain ⟨f1, f2, f3, f4, f5⟩ := hfx
      obtain ⟨k, p, t, o, nn, d⟩ := x
      simp only at *
      generalize prT ⟨k, p, t, o, nn, d⟩ = T at *
      clear HP
      rcases hk with ⟨hk, e⟩ | ⟨rfl, e⟩ | ⟨rfl, e⟩ | ⟨rfl, e⟩ | ⟨n1, n5, n2, n3, n4, e⟩
      · subst e
        rcases hk with rfl | rfl
        · by_cases ht0 : T = []
          · have HS' : Hid (prL (l.take (j + 1)) = S) := HS.out ht0
            subst ht0
            clear HS HF HN
            by_cases hs0 : S = []
            · subst hs0
              have a9 : (⟨#[]⟩ : ByteArray) ++ ⟨#[]⟩ = ⟨#[]⟩ := ba_append [] []
              go_wp2
              go_roundw
              case rel => exact ⟨j + 1, [], by omega, by go_num, by first | rfl | (simp; done), HS', by simp, hb⟩
              case measure => simp [intOf]; omega
            · have s1 : (S != []) = true := by rw [bne_iff_ne]; exact hs0
              have s2 : (S == []) = false := by rw [beq_eq_false_iff_ne]; exact hs0
              have s3 : S.isEmpty = false := by cases S with | nil => exact absurd rfl hs0 | cons c q => rfl
              have a9 : (⟨S.toArray⟩ : ByteArray) ++ ⟨#[]⟩ = ⟨S.toArray⟩ := by have := ba_append S []; rw [List.append_nil] at this; exact this
              go_wp2
              go_roundw
              case rel => exact ⟨j + 1, S, by omega, by go_num, by first | rfl | (simp; done), HS', by omega, hb⟩
              case measure => simp [intOf]; omega
          · have t1 : (T != []) = true := by rw [bne_iff_ne]; exact ht0
            have t2 : (T == []) = false := by rw [beq_eq_false_iff_ne]; exact ht0
            have t3 : T.isEmpty = false := by cases T with | nil => exact absurd rfl ht0 | cons c q => rfl
            by_cases hs0 : S = []
            · have HF' : Hid (prL (l.take (j + 1)) = T) := HF.out ht0 hs0
              subst hs0
              have a0 : (⟨#[]⟩ : ByteArray) ++ ⟨T.toArray⟩ = ⟨T.toArray⟩ := ba_append [] T
              clear HS HF HN ht0
              go_wp2
              go_roundw
              case rel => exact ⟨j + 1, T, by omega, by go_num, by first | rfl | (simp; done), HF', by omega, hb⟩
              case measure => simp [intOf]; omega
            · have s1 : (S != []) = true := by rw [bne_iff_ne]; exact hs0
              have s2 : (S == []) = false := by rw [beq_eq_false_iff_ne]; exact hs0
              have s3 : S.isEmpty = false := by cases S with | nil => exact absurd rfl hs0 | cons c q => rfl
              have HN' : Hid (prL (l.take (j + 1)) = S ++ 32 :: T) := HN.out ht0 hs0
              have a1 : (⟨S.toArray⟩ : ByteArray) ++ ⟨#[32]⟩ = ⟨(S ++ [32]).toArray⟩ := ba_append S [32]
              have a2 : (⟨(S ++ [32]).toArray⟩ : ByteArray) ++ ⟨T.toArray⟩ = ⟨(S ++ 32 :: T).toArray⟩ := by rw [ba_append]; simp
              have h3 : (S ++ [32]).length ≤ 30001 := by simp; omega
              have h4 : (S ++ 32 :: T).length ≤ 30000 := by rw [← HN'.out]; exact HL.out (j + 1)
              obtain ⟨S1, e1⟩ : ∃ S1, S1 = S ++ [32] := ⟨_, rfl⟩
              rw [← e1] at a1 a2 h3
              obtain ⟨S2, e2⟩ : ∃ S2, S2 = S ++ 32 :: T := ⟨_, rfl⟩
              rw [← e2] at a2 h4 HN'
              clear HS HF HN ht0 hs0 e1 e2
              go_wp2
              go_roundw
              case rel => exact ⟨j + 1, S2, by omega, by go_num, rfl, HN', h4, hb⟩
              case measure => simp [intOf]; omega
        · by_cases ht0 : T = []
          · have HS' : Hid (prL (l.take (j + 1)) = S) := HS.out ht0
            subst ht0
            clear HS HF HN
            by_cases hs0 : S = []
            · subst hs0
              have a9 : (⟨#[]⟩ : ByteArray) ++ ⟨#[]⟩ = ⟨#[]⟩ := ba_append [] []
              go_wp2
              go_roundw
              case rel => exact ⟨j + 1, [], by omega, by go_num, by first | rfl | (simp; done), HS', by simp, hb⟩
              case measure => simp [intOf]; omega
            · have s1 : (S != []) = true := by rw [bne_iff_ne]; exact hs0
              have s2 : (S == []) = false := by rw [beq_eq_false_iff_ne]; exact hs0
              have s3 : S.isEmpty = false := by cases S with | nil => exact absurd rfl hs0 | cons c q => rfl
              have a9 : (⟨S.toArray⟩ : ByteArray) ++ ⟨#[]⟩ = ⟨S.toArray⟩ := by have := ba_append S []; rw [List.append_nil] at this; exact this
              go_wp2
              go_roundw
              case rel => exact ⟨j + 1, S, by omega, by go_num, by first | rfl | (simp; done), HS', by omega, hb⟩
              case measure => simp [intOf]; omega
          · have t1 : (T != []) = true := by rw [bne_iff_ne]; exact ht0
            have t2 : (T == []) = false := by rw [beq_eq_false_iff_ne]; exact ht0
            have t3 : T.isEmpty = false := by cases T with | nil => exact absurd rfl ht0 | cons c q => rfl
            by_cases hs0 : S = []
            · have HF' : Hid (prL (l.take (j + 1)) = T) := HF.out ht0 hs0
              subst hs0
              have a0 : (⟨#[]⟩ : ByteArray) ++ ⟨T.toArray⟩ = ⟨T.toArray⟩ := ba_append [] T
              clear HS HF HN ht0
              go_wp2
              go_roundw
              case rel => exact ⟨j + 1, T, by omega, by go_num, by first | rfl | (simp; done), HF', by omega, hb⟩
              case measure => simp [intOf]; omega
            · have s1 : (S != []) = true := by rw [bne_iff_ne]; exact hs0
              have s2 : (S == []) = false := by rw [beq_eq_false_iff_ne]; exact hs0
              have s3 : S.isEmpty = false := by cases S with | nil => exact absurd rfl hs0 | cons c q => rfl
              have HN' : Hid (prL (l.take (j + 1)) = S ++ 32 :: T) := HN.out ht0 hs0
              have a1 : (⟨S.toArray⟩ : ByteArray) ++ ⟨#[32]⟩ = ⟨(S ++ [32]).toArray⟩ := ba_append S [32]
              have a2 : (⟨(S ++ [32]).toArray⟩ : ByteArray) ++ ⟨T.toArray⟩ = ⟨(S ++ 32 :: T).toArray⟩ := by rw [ba_append]; simp
              have h3 : (S ++ [32]).length ≤ 30001 := by simp; omega
              have h4 : (S ++ 32 :: T).length ≤ 30000 := by rw [← HN'.out]; exact HL.out (j + 1)
              obtain ⟨S1, e1⟩ : ∃ S1, S1 = S ++ [32] := ⟨_, rfl⟩
              rw [← e1] at a1 a2 h3
              obtain ⟨S2, e2⟩ : ∃ S2, S2 = S ++ 32 :: T := ⟨_, rfl⟩
              rw [← e2] at a2 h4 HN'
              clear HS HF HN ht0 hs0 e1 e2
              go_wp2
              go_roundw
              case rel => exact ⟨j + 1, S2, by omega, by go_num, rfl, HN', h4, hb⟩
              case measure => simp [intOf]; omega
      · have hC := fun W => Fx.rprint_any o nn W ⟨f2, f3⟩
        rw [← e] at hC
        clear e
        by_cases ht0 : T = []
        · have HS' : Hid (prL (l.take (j + 1)) = S) := HS.out ht0
          subst ht0
          clear HS HF HN
          by_cases hs0 : S = []
          · subst hs0
            have a9 : (⟨#[]⟩ : ByteArray) ++ ⟨#[]⟩ = ⟨#[]⟩ := ba_append [] []
            go_wp2_with fail
            refine (hC _).mono ?_
            rintro e w1 ⟨rfl, hb1⟩
            go_wp2
            go_roundw
            case rel => exact ⟨j + 1, [], by omega, by go_num, by first | rfl | (simp; done), HS', by simp, Below.chain hb hb1⟩
            case measure => simp [intOf]; omega
          · have s1 : (S != []) = true := by rw [bne_iff_ne]; exact hs0
            have s2 : (S == []) = false := by rw [beq_eq_false_iff_ne]; exact hs0
            have s3 : S.isEmpty = false := by cases S with | nil => exact absurd rfl hs0 | cons c q => rfl
            have a9 : (⟨S.toArray⟩ : ByteArray) ++ ⟨#[]⟩ = ⟨S.toArray⟩ := by have := ba_append S []; rw [List.append_nil] at this; exact this
            go_wp2_with fail
            refine (hC _).mono ?_
            rintro e w1 ⟨rfl, hb1⟩
            go_wp2
            go_roundw
            case rel => exact ⟨j + 1, S, by omega, by go_num, by first | rfl | (simp; done), HS', by omega, Below.chain hb hb1⟩
            case measure => simp [intOf]; omega
        · have t1 : (T != []) = true := by rw [bne_iff_ne]; exact ht0
          have t2 : (T == []) = false := by rw [beq_eq_false_iff_ne]; exact ht0
          have t3 : T.isEmpty = false := by cases T with | nil => exact absurd rfl ht0 | cons c q => rfl
          by_cases hs0 : S = []
          · have HF' : Hid (prL (l.take (j + 1)) = T) := HF.out ht0 hs0
            subst hs0
            have a0 : (⟨#[]⟩ : ByteArray) ++ ⟨T.toArray⟩ = ⟨T.toArray⟩ := ba_append [] T
            clear HS HF HN ht0
            go_wp2_with fail
            refine (hC _).mono ?_
            rintro e w1 ⟨rfl, hb1⟩
            go_wp2
            go_roundw
            case rel => exact ⟨j + 1, T, by omega, by go_num, by first | rfl | (simp; done), HF', by omega, Below.chain hb hb1⟩
            case measure => simp [intOf]; omega
          · have s1 : (S != []) = true := by rw [bne_iff_ne]; exact hs0
            have s2 : (S == []) = false := by rw [beq_eq_false_iff_ne]; exact hs0
            have s3 : S.isEmpty = false := by cases S with | nil => exact absurd rfl hs0 | cons c q => rfl
            have HN' : Hid (prL (l.take (j + 1)) = S ++ 32 :: T) := HN.out ht0 hs0
            have a1 : (⟨S.toArray⟩ : ByteArray) ++ ⟨#[32]⟩ = ⟨(S ++ [32]).toArray⟩ := ba_append S [32]
            have a2 : (⟨(S ++ [32]).toArray⟩ : ByteArray) ++ ⟨T.toArray⟩ = ⟨(S ++ 32 :: T).toArray⟩ := by rw [ba_append]; simp
            have h3 : (S ++ [32]).length ≤ 30001 := by simp; omega
            have h4 : (S ++ 32 :: T).length ≤ 30000 := by rw [← HN'.out]; exact HL.out (j + 1)
            obtain ⟨S1, e1⟩ : ∃ S1, S1 = S ++ [32] := ⟨_, rfl⟩
            rw [← e1] at a1 a2 h3
            obtain ⟨S2, e2⟩ : ∃ S2, S2 = S ++ 32 :: T := ⟨_, rfl⟩
            rw [← e2] at a2 h4 HN'
            clear HS HF HN ht0 hs0 e1 e2
            go_wp2_with fail
            refine (hC _).mono ?_
            rintro e w1 ⟨rfl, hb1⟩
            go_wp2
            go_roundw
            case rel => exact ⟨j + 1, S2, by omega, by go_num, rfl, HN', h4, Below.chain hb hb1⟩
            case measure => simp [intOf]; omega
      · obtain ⟨dn, rfl⟩ : ∃ dn : Nat, d = dn := ⟨d.toNat, by omega⟩
        have hd : ((max 0 dn : Int)) = (dn : Int) := by omega
        have hC := fun W => Fx.rdigits_any dn W (by omega)
        rw [Lib.itoa_nonneg] at e
        have hdl := Fx.dec_short (u := dn) (by omega)
        have a5 : (⟨(Lib.decDigits dn).toArray⟩ : ByteArray) ++ ⟨#[116]⟩ = ⟨T.toArray⟩ := by rw [e]; exact ba_append _ [116]
        clear e
        generalize Lib.decDigits dn = D at *
        have hmx : (0 : Int) ≤ dn := by omega
        by_cases ht0 : T = []
        · have HS' : Hid (prL (l.take (j + 1)) = S) := HS.out ht0
          subst ht0
          clear HS HF HN
          by_cases hs0 : S = []
          · subst hs0
            have a9 : (⟨#[]⟩ : ByteArray) ++ ⟨#[]⟩ = ⟨#[]⟩ := ba_append [] []
            go_wp2_with fail
            refine (hC _).mono ?_
            rintro e w1 ⟨rfl, hb1⟩
            go_wp2
            go_roundw
            case rel => exact ⟨j + 1, [], by omega, by go_num, by first | rfl | (simp; done), HS', by simp, Below.chain hb hb1⟩
            case measure => simp [intOf]; omega
          · have s1 : (S != []) = true := by rw [bne_iff_ne]; exact hs0
            have s2 : (S == []) = false := by rw [beq_eq_false_iff_ne]; exact hs0
            have s3 : S.isEmpty = false := by cases S with | nil => exact absurd rfl hs0 | cons c q => rfl
            have a9 : (⟨S.toArray⟩ : ByteArray) ++ ⟨#[]⟩ = ⟨S.toArray⟩ := by have := ba_append S []; rw [List.append_nil] at this; exact this
            go_wp2_with fail
            refine (hC _).mono ?_
            rintro e w1 ⟨rfl, hb1⟩
            go_wp2
            go_roundw
            case rel => exact ⟨j + 1, S, by omega, by go_num, by first | rfl | (simp; done), HS', by omega, Below.chain hb hb1⟩
            case measure => simp [intOf]; omega
        · have t1 : (T != []) = true := by rw [bne_iff_ne]; exact ht0
          have t2 : (T == []) = false := by rw [beq_eq_false_iff_ne]; exact ht0
          have t3 : T.isEmpty = false := by cases T with | nil => exact absurd rfl ht0 | cons c q => rfl
          by_cases hs0 : S = []
          · have HF' : Hid (prL (l.take (j + 1)) = T) := HF.out ht0 hs0
            subst hs0
            have a0 : (⟨#[]⟩ : ByteArray) ++ ⟨T.toArray⟩ = ⟨T.toArray⟩ := ba_append [] T
            clear HS HF HN ht0
            go_wp2_with fail
            refine (hC _).mono ?_
            rintro e w1 ⟨rfl, hb1⟩
            go_wp2
            go_roundw
            case rel => exact ⟨j + 1, T, by omega, by go_num, by first | rfl | (simp; done), HF', by omega, Below.chain hb hb1⟩
            case measure => simp [intOf]; omega
          · have s1 : (S != []) = true := by rw [bne_iff_ne]; exact hs0
            have s2 : (S == []) = false := by rw [beq_eq_false_iff_ne]; exact hs0
            have s3 : S.isEmpty = false := by cases S with | nil => exact absurd rfl hs0 | cons c q => rfl
            have HN' : Hid (prL (l.take (j + 1)) = S ++ 32 :: T) := HN.out ht0 hs0
            have a1 : (⟨S.toArray⟩ : ByteArray) ++ ⟨#[32]⟩ = ⟨(S ++ [32]).toArray⟩ := ba_append S [32]
            have a2 : (⟨(S ++ [32]).toArray⟩ : ByteArray) ++ ⟨T.toArray⟩ = ⟨(S ++ 32 :: T).toArray⟩ := by rw [ba_append]; simp
            have h3 : (S ++ [32]).length ≤ 30001 := by simp; omega
            have h4 : (S ++ 32 :: T).length ≤ 30000 := by rw [← HN'.out]; exact HL.out (j + 1)
            obtain ⟨S1, e1⟩ : ∃ S1, S1 = S ++ [32] := ⟨_, rfl⟩
            rw [← e1] at a1 a2 h3
            obtain ⟨S2, e2⟩ : ∃ S2, S2 = S ++ 32 :: T := ⟨_, rfl⟩
            rw [← e2] at a2 h4 HN'
            clear HS HF HN ht0 hs0 e1 e2
            go_wp2_with fail
            refine (hC _).mono ?_
            rintro e w1 ⟨rfl, hb1⟩
            go_wp2
            go_roundw
            case rel => exact ⟨j + 1, S2, by omega, by go_num, rfl, HN', h4, Below.chain hb hb1⟩
            case measure => simp [intOf]; omega
      · have hC : ∀ W, Calls Tryz.prog 16 #[tx t] W fun e w' => e = .returned (tx ([34] ++ esc t ++ [34])) ∧ Below W.heap.size W w' := fun W => (refQuote_any t W f1).mono fun e w' ⟨h1, h2⟩ => ⟨h1, by rw [← h2]; exact Below.refl _ _⟩
        rw [← e] at hC
        clear e
        by_cases ht0 : T = []
        · have HS' : Hid (prL (l.take (j + 1)) = S) := HS.out ht0
          subst ht0
          clear HS HF HN
          by_cases hs0 : S = []
          · subst hs0
            have a9 : (⟨#[]⟩ : ByteArray) ++ ⟨#[]⟩ = ⟨#[]⟩ := ba_append [] []
            go_wp2_with fail
            refine (hC _).mono ?_
            rintro e w1 ⟨rfl, hb1⟩
            go_wp2
            go_roundw
            case rel => exact ⟨j + 1, [], by omega, by go_num, by first | rfl | (simp; done), HS', by simp, Below.chain hb hb1⟩
            case measure => simp [intOf]; omega
          · have s1 : (S != []) = true := by rw [bne_iff_ne]; exact hs0
            have s2 : (S == []) = false := by rw [beq_eq_false_iff_ne]; exact hs0
            have s3 : S.isEmpty = false := by cases S with | nil => exact absurd rfl hs0 | cons c q => rfl
            have a9 : (⟨S.toArray⟩ : ByteArray) ++ ⟨#[]⟩ = ⟨S.toArray⟩ := by have := ba_append S []; rw [List.append_nil] at this; exact this
            go_wp2_with fail
            refine (hC _).mono ?_
            rintro e w1 ⟨rfl, hb1⟩
            go_wp2
            go_roundw
            case rel => exact ⟨j + 1, S, by omega, by go_num, by first | rfl | (simp; done), HS', by omega, Below.chain hb hb1⟩
            case measure => simp [intOf]; omega
        · have t1 : (T != []) = true := by rw [bne_iff_ne]; exact ht0
          have t2 : (T == []) = false := by rw [beq_eq_false_iff_ne]; exact ht0
          have t3 : T.isEmpty = false := by cases T with | nil => exact absurd rfl ht0 | cons c q => rfl
          by_cases hs0 : S = []
          · have HF' : Hid (prL (l.take (j + 1)) = T) := HF.out ht0 hs0
            subst hs0
            have a0 : (⟨#[]⟩ : ByteArray) ++ ⟨T.toArray⟩ = ⟨T.toArray⟩ := ba_append [] T
            clear HS HF HN ht0
            go_wp2_with fail
            refine (hC _).mono ?_
            rintro e w1 ⟨rfl, hb1⟩
            go_wp2
            go_roundw
            case rel => exact ⟨j + 1, T, by omega, by go_num, by first | rfl | (simp; done), HF', by omega, Below.chain hb hb1⟩
            case measure => simp [intOf]; omega
          · have s1 : (S != []) = true := by rw [bne_iff_ne]; exact hs0
            have s2 : (S == []) = false := by rw [beq_eq_false_iff_ne]; exact hs0
            have s3 : S.isEmpty = false := by cases S with | nil => exact absurd rfl hs0 | cons c q => rfl
            have HN' : Hid (prL (l.take (j + 1)) = S ++ 32 :: T) := HN.out ht0 hs0
            have a1 : (⟨S.toArray⟩ : ByteArray) ++ ⟨#[32]⟩ = ⟨(S ++ [32]).toArray⟩ := ba_append S [32]
            have a2 : (⟨(S ++ [32]).toArray⟩ : ByteArray) ++ ⟨T.toArray⟩ = ⟨(S ++ 32 :: T).toArray⟩ := by rw [ba_append]; simp
            have h3 : (S ++ [32]).length ≤ 30001 := by simp; omega
            have h4 : (S ++ 32 :: T).length ≤ 30000 := by rw [← HN'.out]; exact HL.out (j + 1)
            obtain ⟨S1, e1⟩ : ∃ S1, S1 = S ++ [32] := ⟨_, rfl⟩
            rw [← e1] at a1 a2 h3
            obtain ⟨S2, e2⟩ : ∃ S2, S2 = S ++ 32 :: T := ⟨_, rfl⟩
            rw [← e2] at a2 h4 HN'
            clear HS HF HN ht0 hs0 e1 e2
            go_wp2_with fail
            refine (hC _).mono ?_
            rintro e w1 ⟨rfl, hb1⟩
            go_wp2
            go_roundw
            case rel => exact ⟨j + 1, S2, by omega, by go_num, rfl, HN', h4, Below.chain hb hb1⟩
            case measure => simp [intOf]; omega
      · subst e
        have b1 : (k == 1) = false := beq_eq_false_iff_ne.2 n1
        have b5 : (k == 5) = false := beq_eq_false_iff_ne.2 n5
        have b2 : (k == 2) = false := beq_eq_false_iff_ne.2 n2
        have b3 : (k == 3) = false := beq_eq_false_iff_ne.2 n3
        have b4 : (k == 4) = false := beq_eq_false_iff_ne.2 n4
        have HS' : Hid (prL (l.take (j + 1)) = S) := HS.out rfl
        clear n1 n2 n3 n4 n5
        clear HS HF HN
        by_cases hs0 : S = []
        · subst hs0
          have a9 : (⟨#[]⟩ : ByteArray) ++ ⟨#[]⟩ = ⟨#[]⟩ := ba_append [] []
          go_wp2
          go_roundw
          case rel => exact ⟨j + 1, [], by omega, by go_num, by first | rfl | (simp; done), HS', by simp, hb⟩
          case measure => simp [intOf]; omega
        · have s1 : (S != []) = true := by rw [bne_iff_ne]; exact hs0
          have s2 : (S == []) = false := by rw [beq_eq_false_iff_ne]; exact hs0
          have s3 : S.isEmpty = false := by cases S with | nil => exact absurd rfl hs0 | cons c q => rfl
          have a9 : (⟨S.toArray⟩ : ByteArray) ++ ⟨#[]⟩ = ⟨S.toArray⟩ := by have := ba_append S []; rw [List.append_nil] at this; exact this
          go_wp2
          go_roundw
          case rel => exact ⟨j + 1, S, by omega, by go_num, by first | rfl | (simp; done), HS', by omega, hb⟩
          case measure => simp [intOf]; omega
    · have e : prL l = S := by rw [← HP.out, List.take_of_length_le (by rw [HLN.out]; omega)]
      have HE : Hid (prL l = S) := e
      clear e HP
      go_wp2
      go_ret
      exact ⟨by rw [HE.out]; rfl, hb⟩
end Go.Proofs.YtajbjbnfklllkaaGreatDoor
