/- Texts cut and put together. -/
import Derived.Test.YtcalbghoacedhaaDoorGlob
namespace Go.Proofs.YtcalbghoacedhaaDoor
open Go.RowKit

theorem cut_to (P : Str) (p : Nat) : (⟨P.toArray⟩ : ByteArray).extract 0 p = ⟨(P.take p).toArray⟩ := by
  rw [Lib.extract_eq]
  congr 2
theorem ba_append (x y : List UInt8) : (⟨x.toArray⟩ : ByteArray) ++ ⟨y.toArray⟩ = ⟨(x ++ y).toArray⟩ := by
  apply ByteArray.ext
  simp
theorem ex_one (s : Str) (k : Nat) (h : k < s.length) : (⟨s.toArray⟩ : ByteArray).extract k (k + 1) = ⟨[s[k]].toArray⟩ := by
  rw [Lib.extract_eq]
  congr 2
  rw [List.drop_eq_getElem_cons h, Nat.add_sub_cancel_left]
  rfl
end Go.Proofs.YtcalbghoacedhaaDoor
