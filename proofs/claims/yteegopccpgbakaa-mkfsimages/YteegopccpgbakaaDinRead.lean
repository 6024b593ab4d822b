/-
  Read of the program.
-/
import Derived.Test.YteegopccpgbakaaDinPack
namespace Go.Proofs.Yteegopccpgbakaa
open Go Go.Proofs Go.RowKit Go.Shelf
namespace Din
theorem pack_no (w : World) (l : List Int) (hl : l.length = 13) (h : fineL l = false) : Calls Try.prog 28 #[inoV l] w fun e w' => e = .returned (.tuple #[.slice none 0 0, .int .i64 1]) ∧ Below w.heap.size w w' := by
  refine (pack_any w l hl).mono ?_
  rintro e w' ⟨hB, ⟨-, rfl⟩ | ⟨h2, -⟩⟩
  · exact ⟨rfl, hB⟩
  · rw [h] at h2; cases h2
theorem pack_yes (w : World) (l : List Int) (hl : l.length = 13) (h : fineL l = true) : Calls Try.prog 28 #[inoV l] w fun e w' => ∃ g, e = .returned (.tuple #[.slice (some ⟨g, 0, none⟩) 64 64, .int .i64 0]) ∧ RAt w' g (inoL l) ∧ w.heap.size ≤ g ∧ Below w.heap.size w w' := by
  refine (pack_any w l hl).mono ?_
  rintro e w' ⟨hB, ⟨h2, -⟩ | ⟨-, g, rfl, h3, h4⟩⟩
  · rw [h] at h2; cases h2
  · exact ⟨g, rfl, h3, h4, hB⟩
theorem _root_.Go.Proofs.Yteegopccpgbakaa.BAt.frontDin {W : World} {a : Addr} {n : Nat} {xs : List Int} (h : BAt W (some a) n xs) (m : Nat) (hm : m ≤ n) : BAt W (some a) m (xs.take m) := by
  refine ⟨by simp [h.1]; omega, fun hp => ?_⟩
  obtain ⟨a', e, hlt, hc⟩ := h.2 (by omega)
  refine ⟨a', e, hlt, fun i hi => ?_⟩
  rw [hc i (by omega)]
  simp [List.getD, hi]
theorem alloc24_any (W : World) : ∃ X c, (Instr.alloc 45 true (.tuple #[])).run Try.prog W = .ok (.pointer (some ⟨c, 0, none⟩)) X ∧ NAt c (zeros 13) X ∧ Below W.heap.size W X ∧ W.heap.size ≤ c :=
  ⟨_, _, alloc24_run W, NAt.new W _, (Below.refl _ W).alloc (Nat.le_refl _) _, Nat.le_refl _⟩
end Din
end Go.Proofs.Yteegopccpgbakaa
