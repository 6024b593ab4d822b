/-
  The document's example: the bytes of entry 1, '.'.
-/
import Derived.Test.YteegopccpgbakaaEntPack
namespace Go.Proofs.Yteegopccpgbakaa
open Go Go.Proofs Go.RowKit Go.Shelf
namespace Ent
def dotS : ByteArray := ⟨#[46]⟩
theorem dot_is : isB 1 (nm dotS) = true := by decide +kernel
theorem dot_len : (entL 1 (nm dotS)).length = 32 := by decide +kernel
theorem dot_at : (entL 1 (nm dotS)).getD 0 0 = 1 ∧ (entL 1 (nm dotS)).getD 4 0 = 1 ∧ (entL 1 (nm dotS)).getD 5 0 = 46 ∧ (entL 1 (nm dotS)).getD 6 0 = 0 := by decide +kernel
end Ent
end Go.Proofs.Yteegopccpgbakaa
