/-
  The document's example, and the document's own With, Count and First.
-/
import Derived.Test.YtjhfkcngaknbdaaBtFirst
import Derived.Deep.Cut
import Derived.Deep.CutRange
import Derived.Deep.CutBlock
namespace Go.Proofs.Ytjhfkcngaknbdaa
open Go Go.Proofs Go.RowKit Go.Shelf
namespace Bt
theorem cntN_succ (xs : List Int) (q : Nat) : cntN xs (q + 1) = cntN xs q + (if getN xs q = true then 1 else 0) := by
  unfold cntN
  rw [List.range_succ, List.countP_append]
  simp [List.countP_cons]
theorem cntN_le (xs : List Int) (q : Nat) : cntN xs q ≤ q := by
  have h : cntN xs q ≤ (List.range q).length := List.countP_le_length
  simpa using h
theorem fstN_end (xs : List Int) (E q : Nat) (h : E ≤ q) : fstN xs E q = none := by
  unfold fstN
  rw [show E - q = 0 from by omega]
  rfl
theorem fstN_step (xs : List Int) (E q : Nat) (h : q < E) : fstN xs E q = if getN xs q = true then fstN xs E (q + 1) else some q := by
  unfold fstN
  rw [show E - q = (E - (q + 1)) + 1 from by omega, List.range'_succ, List.find?_cons]
  cases getN xs q <;> simp
end Bt
end Go.Proofs.Ytjhfkcngaknbdaa
