/-
  HeadBits of the reference.
-/
import Derived.Test.YteegopccpgbakaaSupHead
namespace Go.Proofs.Yteegopccpgbakaa
open Go Go.Proofs Go.RowKit Go.Shelf
namespace Sup
theorem _root_.Go.Proofs.Yteegopccpgbakaa.BAt.front {W : World} {ao : Option Addr} {n m : Nat} {xs : List Int} (h : BAt W ao n xs) (hm : m ≤ n) : BAt W ao m (xs.take m) := by
  refine ⟨by have := h.1; simp; omega, fun hp => ?_⟩
  obtain ⟨a, e, hlt, hc⟩ := h.2 (by omega)
  refine ⟨a, e, hlt, fun i hi => ?_⟩
  rw [hc i (by omega)]
  simp [List.getD, hi]
end Sup
end Go.Proofs.Yteegopccpgbakaa
