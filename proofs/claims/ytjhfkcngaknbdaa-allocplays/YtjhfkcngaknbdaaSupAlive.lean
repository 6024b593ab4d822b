/-
  What a superblock's bytes are; the document's example.
-/
import Derived.Test.YtjhfkcngaknbdaaSupRead
namespace Go.Proofs.Ytjhfkcngaknbdaa
open Go Go.Proofs Go.RowKit Go.Shelf
namespace Sup
theorem numL_leL (n : Int) (h0 : 0 ≤ n) (h1 : n < 4294967296) : numL (leL n 4) = n := by
  have e : leL n 4 = [n % 256, n / 256 % 256, n / 65536 % 256, n / 16777216 % 256] := by
    simp [leL, List.range_succ]
  rw [e]
  simp only [numL]
  omega
set_option maxRecDepth 100000 in
theorem super_parts (G I D : Int) : gOf (superL G I D) = numL (leL G 4) ∧ iOf (superL G I D) = numL (leL I 4) ∧ dOf (superL G I D) = numL (leL D 4) := by
  have e : superL G I D = lockL ++ (leL G 4 ++ (leL I 4 ++ (leL D 4 ++ (leL (sumL (hdrL G I D)) 4 ++ zeros 1000)))) := by simp [superL, hdrL]
  have l8 : lockL.length = 8 := rfl
  refine ⟨?_, ?_, ?_⟩
  · unfold gOf
    rw [e, List.drop_left' l8, List.take_left' (leL_length _ _)]
  · unfold iOf
    rw [e, ← List.append_assoc lockL, List.drop_left' (by simp [l8, leL_length]), List.take_left' (leL_length _ _)]
  · unfold dOf
    rw [e, ← List.append_assoc lockL, ← List.append_assoc (lockL ++ leL G 4), List.drop_left' (by simp [l8, leL_length]), List.take_left' (leL_length _ _)]
set_option maxRecDepth 100000 in
theorem super_reads {G I D : Int} (hg : good G I D = true) : rdB (superL G I D) = true ∧ rdV (superL G I D) = geo G I D ∧ rdE (superL G I D) = 0 := by
  have hb := good_iff.1 hg
  obtain ⟨h1, h2, h3⟩ := super_parts G I D
  rw [numL_leL G (by omega) (by omega)] at h1
  rw [numL_leL I (by omega) (by omega)] at h2
  rw [numL_leL D (by omega) (by omega)] at h3
  have h : rdB (superL G I D) = true := by
    unfold rdB
    rw [h1, h2, h3, hg, superL_length]
    simp [eqB]
  refine ⟨h, ?_, (rd_yes h).2⟩
  rw [(rd_yes h).1, h1, h2, h3]
end Sup
end Go.Proofs.Ytjhfkcngaknbdaa
