/-
  DinodePacks: the bytes of every inode, or that it has none, and that they are read as it.
-/
import Derived.Test.YteegopccpgbakaaDinPackRef
namespace Go.Proofs.Yteegopccpgbakaa
open Go Go.Proofs Go.RowKit Go.Shelf
namespace Din
section
variable {w : World} {ops : Array Oper} {rest : List Oper} {o : Oper} {a : Act} {Q : Exit → Act → World → Prop}
/-- string(b). -/
theorem wpL_conv (x : Operand) (ho : o.op = .convert 26 9 x) (hw : Region.wanted o (yielded ops a.tmps) = true) (ao : Option Addr) (n c : Nat) (xs : List Int) (hx : a.eval x = .slice ao n c) (hB : BAt w ao n xs) (SX : ByteArray) (hS : SX = strOfNums xs) (h : wpList Try.prog ops Q rest (a.put o.dst (.string SX)) w) : wpList Try.prog ops Q (o :: rest) a w := by
  subst hS
  exact wpList_known hw _ _ (exec_convert ho hx (conv_bytes w ao n c xs hB)) h
theorem wpL_boxed (x : Operand) (ho : o.op = .box 45 x) (hw : Region.wanted o (yielded ops a.tmps) = true) (l : List Int) (b : Nat) (W1 : World) (hb : b = w.heap.size) (hW : W1 = w.alloc (.cells (Iy l).toArray 45)) (hx : a.eval x = inoV l) (h : wpList Try.prog ops Q rest (a.put o.dst (.pointer (some ⟨b, 0, none⟩))) W1) : wpList Try.prog ops Q (o :: rest) a w := by
  subst hb hW
  exact wpL_box x ho hw l hx h
end
theorem rpack_no (w : World) (l : List Int) (hl : l.length = 13) (h : fineL l = false) : Calls Try.prog 19 #[inoV l] w fun e w' => e = .returned (.tuple #[.slice none 0 0, .bool false]) ∧ Below w.heap.size w w' := by
  refine (rpack_any w l hl).mono ?_
  rintro e w' ⟨hB, ⟨-, rfl⟩ | ⟨h2, -⟩⟩
  · exact ⟨rfl, hB⟩
  · rw [h] at h2; cases h2
theorem rpack_yes (w : World) (l : List Int) (hl : l.length = 13) (h : fineL l = true) : Calls Try.prog 19 #[inoV l] w fun e w' => ∃ ao c, e = .returned (.tuple #[.slice ao 64 c, .bool true]) ∧ BAt w' ao 64 (inoL l) ∧ Below w.heap.size w w' := by
  refine (rpack_any w l hl).mono ?_
  rintro e w' ⟨hB, ⟨h2, -⟩ | ⟨-, v, rfl, ho⟩⟩
  · rw [h] at h2; cases h2
  · obtain ⟨ao, c, rfl, hb, -⟩ := owns_BAt ho
    exact ⟨ao, c, rfl, hb, hB⟩
theorem _root_.Go.Proofs.Yteegopccpgbakaa.BAt.nil (W : World) : BAt W none 0 [] := ⟨rfl, fun h => absurd h (Nat.lt_irrefl 0)⟩
theorem _root_.Go.Proofs.Yteegopccpgbakaa.BAt.below {W W' : World} {ao : Option Addr} {n : Nat} {xs : List Int} (h : BAt W ao n xs) (hB : Below W.heap.size W W') : BAt W' ao n xs := h.only (Only.of_new (fun _ => False) hB) (fun _ _ _ h => h)
end Din
end Go.Proofs.Yteegopccpgbakaa
