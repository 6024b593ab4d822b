/-
  Numbers as bytes: put and fill of the reference.
-/
import Derived.Test.YthmbhcmicebcpaaNums
namespace Go.Proofs.Ythmbhcmicebcpaa
open Go Go.Proofs Go.RowKit Go.Shelf
set_option maxRecDepth 100000 in
theorem zero_cells (k : Nat) : Builtin.zeroCells (Value.int .u8 0).cells k = (By (List.replicate k 0)).toArray := by
  apply Array.ext'
  rw [show (By (List.replicate k 0)).toArray.toList = List.replicate k (Value.int .u8 0) by simp [By], List.eq_replicate_iff]
  simp [Builtin.zeroCells, Value.cells, Nat.mod_one]
/-- A row of bytes that one may append to: an owned one, or one that has no room. -/
def Src (w : World) (B : Nat) (v : Value) (n : Nat) (xs : List Int) : Prop := w.ownsRow B 5 1 v n (By xs) ∨ ∃ a, v = .slice (some a) n n ∧ BAt w (some a) n xs
end Go.Proofs.Ythmbhcmicebcpaa
