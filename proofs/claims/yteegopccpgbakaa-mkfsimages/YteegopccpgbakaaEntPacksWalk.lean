/-
  EntryPacks: the bytes of every entry, or that it has none, and that they are read as it.
-/
import Derived.Test.YteegopccpgbakaaEntPackRef
namespace Go.Proofs.Yteegopccpgbakaa
open Go Go.Proofs Go.RowKit Go.Shelf
namespace Ent
theorem _root_.Go.Proofs.Yteegopccpgbakaa.BAt.nilEnt (w : World) : BAt w none 0 [] := ⟨rfl, fun h => absurd h (Nat.lt_irrefl 0)⟩
/-- A new variable for an entry. -/
theorem var26 (W : World) (i : Int) (s : ByteArray) : ∃ X Y d, (Instr.alloc 48 true (.tuple #[])).run Try.prog W = .ok (.pointer (some ⟨d, 0, none⟩)) X ∧ (Instr.storeAt 48 (.pointer (some ⟨d, 0, none⟩)) (entV i s)).run Try.prog X = .ok () Y ∧ NAt d i s Y ∧ Below W.heap.size W Y ∧ W.heap.size ≤ d := by
  obtain ⟨X, d, hrX, hX, hXB, hXb⟩ := alloc26_any W
  obtain ⟨Y, hrY, hY, hYo⟩ := store26_run (j := i) (t := s) hX
  exact ⟨X, Y, d, hrX, hrY, hY, hXB.trans (hYo.below hXB.size (fun k e => by rw [e]; exact hXb)), hXb⟩
theorem rpack_yes2 (w : World) (i : Int) (s : ByteArray) (hf : isB i (nm s) = true) : Calls Try.prog 39 #[entV i s] w fun e w' => ∃ ao c, e = .returned (.tuple #[.slice ao 32 c, .bool true]) ∧ BAt w' ao 32 (entL i (nm s)) ∧ Below w.heap.size w w' := by
  refine (rpack_yes w i s hf).mono ?_
  rintro e w' ⟨v, rfl, ho, hB⟩
  obtain ⟨ao, c, rfl, hb, -⟩ := owns_BAt ho
  exact ⟨ao, c, rfl, hb, hB⟩
end Ent
end Go.Proofs.Yteegopccpgbakaa
