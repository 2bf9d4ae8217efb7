/- Parse: for every text. -/
import Derived.Test.YtcbjhfnlhpallaaGreatDoorPairs2
import Derived.Test.YtcbjhfnlhpallaaGreatDoorSmall
namespace Go.Proofs.YtcbjhfnlhpallaaGreatDoor
open Go.RowKit

theorem rdAll_fit {s : Str} (hs : s.length ≤ 100000) : Fit (rdAll s) := fun p hp => by
  have := (rdAll_len s).1 p hp
  omega
theorem make_fit {l : List Pr} (h : Fit l) : Fit (makeL l) := by
  unfold makeL
  split
  · exact fun p hp => h p (List.mem_filter.1 ((srt_perm _).mem_iff.1 hp)).1
  · exact fun p hp => by cases hp
theorem make_len (l : List Pr) : (makeL l).length ≤ l.length := by
  unfold makeL
  split
  · rw [(srt_perm _).length_eq]
    exact List.length_filter_le _ _
  · simp
set_option maxHeartbeats 2000000 in
theorem parse_any (s : Str) (w : World) (hs : s.length ≤ 100000) (hm : Mx w) :
    Calls Tryz.prog 36 #[tx s] w fun e w' => ∃ v, e = .returned (.tuple #[v, .int .i64 (parseE s)]) ∧ Own w' w.heap.size v (parseL s) ∧ Below w.heap.size w w' := by
  have hr := read_any s w hs hm
  have hlen := (rdAll_len s).2
  have hfit := rdAll_fit hs
  have HO : Hid (okParse s = (decide (makeE (rdAll s) = 0) && decide (fPrint (makeL (rdAll s)) = s))) := rfl
  have HPL : Hid (parseL s = if okParse s = true then makeL (rdAll s) else []) := rfl
  have HPE : Hid (parseE s = if okParse s = true then 0 else 30) := rfl
  have hmf := make_fit hfit
  have hml := make_len (rdAll s)
  generalize rdAll s = l at *
  have hmk := fun (W : World) (xa : Option Addr) (c : Nat) (h : Ps W xa l.length l) => make_any xa l.length c l W (by omega) hfit h
  have hce : makeE l = 0 ∨ (makeE l = 31 ∨ makeE l = 30) := by
    unfold makeE
    split
    · simp
    · split <;> simp
  generalize makeL l = q at *
  generalize makeE l = E at *
  generalize parseE s = PE at *
  generalize parseL s = PL at *
  generalize okParse s = ok at *
  rcases hce with rfl | hne
  · by_cases hpr : fPrint q = s
    · have HE : Hid (PE = 0) := by show _ = _; rw [HPE.out, HO.out]; simp [hpr]
      have HL : Hid (PL = q) := by show _ = _; rw [HPL.out, HO.out]; simp [hpr]
      have hpr' : (fPrint q == s) = true := by simpa using hpr
      clear HPE HPL HO
      go_enter Tryz.func36, Tryz.ntmps36
      go_wp2_with fail
      refine hr.mono ?_
      rintro e w1 ⟨v1, rfl, ho1, hb1⟩
      obtain ⟨ao, cap, rfl, hps⟩ := ho1.fitN
      have hmk1 := hmk w1 ao cap hps
      go_wp2_with fail
      refine hmk1.mono ?_
      rintro e w2 ⟨v2, rfl, ho2, hb2⟩
      obtain ⟨ao2, cap2, rfl, hps2⟩ := ho2.fitN
      have hp := print_any ao2 q.length cap2 q w2 (by omega) hmf ((hm.later hb1).later hb2) hps2
      generalize fPrint q = t at *
      go_wp2_with fail
      refine hp.mono ?_
      rintro e w3 ⟨rfl, hb3⟩
      go_wp2
      go_ret2
      exact ⟨_, by rw [HE.out]; rfl, by rw [HL.out]; exact (ho2.base hb1.size).later hb3, Below.chain (Below.chain hb1 hb2) hb3⟩
    · have HE : Hid (PE = 30) := by show _ = _; rw [HPE.out, HO.out]; simp [hpr]
      have HL : Hid (PL = []) := by show _ = _; rw [HPL.out, HO.out]; simp [hpr]
      have hpr' : (fPrint q == s) = false := by simpa using hpr
      clear HPE HPL HO
      go_enter Tryz.func36, Tryz.ntmps36
      go_wp2_with fail
      refine hr.mono ?_
      rintro e w1 ⟨v1, rfl, ho1, hb1⟩
      obtain ⟨ao, cap, rfl, hps⟩ := ho1.fitN
      have hmk1 := hmk w1 ao cap hps
      go_wp2_with fail
      refine hmk1.mono ?_
      rintro e w2 ⟨v2, rfl, ho2, hb2⟩
      obtain ⟨ao2, cap2, rfl, hps2⟩ := ho2.fitN
      have hp := print_any ao2 q.length cap2 q w2 (by omega) hmf ((hm.later hb1).later hb2) hps2
      generalize fPrint q = t at *
      go_wp2_with fail
      refine hp.mono ?_
      rintro e w3 ⟨rfl, hb3⟩
      go_wp2
      go_ret2
      exact ⟨_, by rw [HE.out]; rfl, by rw [HL.out]; exact Own.none _ _, Below.chain (Below.chain hb1 hb2) hb3⟩
  · have hE0 : E ≠ 0 := by omega
    have HE : Hid (PE = 30) := by show _ = _; rw [HPE.out, HO.out]; simp [hE0]
    have HL : Hid (PL = []) := by show _ = _; rw [HPL.out, HO.out]; simp [hE0]
    have hE' : (E != 0) = true := by rw [bne_iff_ne]; exact hE0
    clear HPE HPL HO hE0 hne
    go_enter Tryz.func36, Tryz.ntmps36
    go_wp2_with fail
    refine hr.mono ?_
    rintro e w1 ⟨v1, rfl, ho1, hb1⟩
    obtain ⟨ao, cap, rfl, hps⟩ := ho1.fitN
    have hmk1 := hmk w1 ao cap hps
    go_wp2_with fail
    refine hmk1.mono ?_
    rintro e w2 ⟨v2, rfl, ho2, hb2⟩
    obtain ⟨ao2, cap2, rfl, hps2⟩ := ho2.fitN
    go_wp2
    go_ret2
    exact ⟨_, by rw [HE.out]; rfl, by rw [HL.out]; exact Own.none _ _, Below.chain hb1 hb2⟩
end Go.Proofs.YtcbjhfnlhpallaaGreatDoor
