/-
  The document's example, which every statement runs first.
-/
import Derived.Test.YteegopccpgbakaaDinRead
namespace Go.Proofs.Yteegopccpgbakaa
open Go Go.Proofs Go.RowKit Go.Shelf
namespace Din
/-- A new variable for an inode. -/
theorem var24 (W : World) (m : List Int) (hm : m.length = 13) : ∃ X Y d, (Instr.alloc 45 true (.tuple #[])).run Try.prog W = .ok (.pointer (some ⟨d, 0, none⟩)) X ∧ (Instr.storeAt 45 (.pointer (some ⟨d, 0, none⟩)) (inoV m)).run Try.prog X = .ok () Y ∧ NAt d m Y ∧ Below W.heap.size W Y ∧ W.heap.size ≤ d := by
  obtain ⟨X, d, h1, h2, h3, h4⟩ := alloc24_any W
  obtain ⟨Y, k1, k2, k3⟩ := store24_run (m := m) h2 (zeros_length 13) hm
  exact ⟨X, Y, d, h1, k1, k2, h3.trans (k3.below h3.size (fun k e => by rw [e]; exact h4)), h4⟩
theorem free_reads : rdB (zeros 64) = true ∧ rdL (zeros 64) = zeros 13 ∧ rdE (zeros 64) = 0 := by
  have h : rdB (zeros 64) = true := by decide +kernel
  exact ⟨h, by rw [(rd_yes h).1]; decide +kernel, (rd_yes h).2⟩
theorem spoilt_reads : rdB ((zeros 64).set 60 1) = false := by decide +kernel
theorem _root_.Go.Proofs.Yteegopccpgbakaa.RAt.set {W : World} {g : Nat} {xs : List Int} (h : RAt W g xs) (i : Nat) (y : Int) : RAt (W.setCell ⟨g, i, none⟩ (.int .u8 y)) g (xs.set i y) := by
  unfold RAt
  rw [blk_set h, By_setArr]
theorem _root_.Go.Proofs.Yteegopccpgbakaa.RAt.cell {W : World} {g : Nat} {xs : List Int} (h : RAt W g xs) (i : Nat) (hi : i < xs.length) : W.cell? ⟨g, i, none⟩ = some (.int .u8 (xs.getD i 0)) ∧ W.frozen? ⟨g, i, none⟩ = false := by
  refine ⟨?_, blk_free h i⟩
  rw [blk_cell h]
  simpa using By_get xs i hi
theorem set_bound (xs : List Int) (h : ∀ x ∈ xs, 0 ≤ x ∧ x ≤ 255) (i : Nat) (y : Int) (hy : 0 ≤ y ∧ y ≤ 255) : ∀ x ∈ xs.set i y, 0 ≤ x ∧ x ≤ 255 := by
  intro x hx
  rcases List.mem_or_eq_of_mem_set hx with h' | h'
  · exact h x h'
  · rw [h']; exact hy
theorem alive1 {w W1 W2 : World} {B : Nat} (hB1 : Below B w W1) (hR1 : RAt W1 B (zeros 64)) (hB2 : Below W1.heap.size W1 W2) : ∃ X Y d, (Instr.alloc 45 true (.tuple #[])).run Try.prog W2 = .ok (.pointer (some ⟨d, 0, none⟩)) X ∧ (Instr.storeAt 45 (.pointer (some ⟨d, 0, none⟩)) (inoV (zeros 13))).run Try.prog X = .ok () Y ∧
    (Y.cell? ⟨B, 60, none⟩ = some (.int .u8 0) ∧ Y.frozen? ⟨B, 60, none⟩ = false) ∧ RAt (Y.setCell ⟨B, 60, none⟩ (.int .u8 1)) B ((zeros 64).set 60 1) ∧ NAt d (zeros 13) (Y.setCell ⟨B, 60, none⟩ (.int .u8 1)) ∧ Below B w (Y.setCell ⟨B, 60, none⟩ (.int .u8 1)) := by
  obtain ⟨X, Y, d, hrX, hrY, hD, hBY, hd⟩ := var24 W2 (zeros 13) (zeros_length 13)
  have hlt := hR1.lt
  have hRY := (hR1.below hB2 hlt).below hBY (Nat.lt_of_lt_of_le hlt hB2.size)
  have hbd : B < d := Nat.lt_of_lt_of_le hlt (Nat.le_trans hB2.size hd)
  have hBW := (hB1.trans (hB2.mono (Nat.le_of_lt hlt))).trans (hBY.mono (Nat.le_trans (Nat.le_of_lt hlt) hB2.size))
  exact ⟨X, Y, d, hrX, hrY, hRY.cell 60 (by rw [zeros_length]; omega), hRY.set 60 1, hD.only ((Only.refl (fun k => k = B) Y).setCell (p := ⟨B, 60, none⟩) (.inl rfl) (.int .u8 1)) (by omega), hBW.setCell (p := ⟨B, 60, none⟩) (Nat.le_refl _) (.int .u8 1)⟩
theorem alive2 {w Z W3 : World} {B d : Nat} (hB : Below B w Z) (hR : RAt Z B ((zeros 64).set 60 1)) (hD : NAt d (zeros 13) Z) (hB3 : Below Z.heap.size Z W3) : ∃ X Y e, (Instr.alloc 45 true (.tuple #[])).run Try.prog W3 = .ok (.pointer (some ⟨e, 0, none⟩)) X ∧ (Instr.storeAt 45 (.pointer (some ⟨e, 0, none⟩)) (inoV (zeros 13))).run Try.prog X = .ok () Y ∧
    Y.cell? ⟨d, 0, none⟩ = some (.int .i64 0) ∧ Below B w Y := by
  obtain ⟨X, Y, e, hrX, hrY, hD2, hBY, hd⟩ := var24 W3 (zeros 13) (zeros_length 13)
  have hlt := hR.lt
  have hDY := (hD.below hB3 hD.lt).below hBY (Nat.lt_of_lt_of_le hD.lt hB3.size)
  exact ⟨X, Y, e, hrX, hrY, hDY.cell 0 (by rw [zeros_length]; omega), (hB.trans (hB3.mono (Nat.le_of_lt hlt))).trans (hBY.mono (Nat.le_trans (Nat.le_of_lt hlt) hB3.size))⟩
end Din
end Go.Proofs.Yteegopccpgbakaa
