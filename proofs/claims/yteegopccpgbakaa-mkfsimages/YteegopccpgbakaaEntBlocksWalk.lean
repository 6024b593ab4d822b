/-
  EntryBlocks: the entries of any block, and the block of any entries.
-/
import Derived.Test.YteegopccpgbakaaEntRBlock
namespace Go.Proofs.Yteegopccpgbakaa
open Go Go.Proofs Go.RowKit Go.Shelf
namespace Ent
/-- The entries of these bytes, where they are a block. -/
def blkE (xs : List Int) : List (Int × ByteArray) := if xs.length = 1024 then entsL xs 32 else []
theorem blkE_len (xs : List Int) : (blkE xs).length ≤ 32 := by
  unfold blkE
  split
  · rw [entsL_length]; omega
  · simp
theorem pblock_no (w : World) (ao : Option Addr) (n c : Nat) (L : List (Int × ByteArray)) (h : EAt w ao n L) (hL : ∀ e ∈ L, e.2.size ≤ 1000) (hn2 : n ≤ 9223372036854775807) (hf : okB L = false) : Calls Try.prog 30 #[.slice ao n c] w fun e w' => e = .returned (.tuple #[.slice none 0 0, .int .i64 1]) ∧ Below w.heap.size w w' := by
  by_cases hn : 32 < n
  · refine (pblock_long w ao n c hn hn2).mono ?_
    rintro e w' ⟨rfl, rfl⟩
    exact ⟨rfl, Below.refl _ _⟩
  · refine (pblock_short w ao n c L h hL (by omega)).mono ?_
    rintro e w' ⟨hB, ⟨-, rfl⟩ | ⟨h2, -⟩⟩
    · exact ⟨rfl, hB⟩
    · rw [hf] at h2; cases h2
theorem okB_len {L : List (Int × ByteArray)} (h : okB L = true) : L.length ≤ 32 ∧ allB L = true := by
  unfold okB at h
  simpa using h
theorem pblock_yes (w : World) (ao : Option Addr) (n c : Nat) (L : List (Int × ByteArray)) (h : EAt w ao n L) (hL : ∀ e ∈ L, e.2.size ≤ 1000) (hf : okB L = true) : Calls Try.prog 30 #[.slice ao n c] w fun e w' => ∃ g, e = .returned (.tuple #[.slice (some ⟨g, 0, none⟩) 1024 1024, .int .i64 0]) ∧ RAt w' g (blockL L) ∧ w.heap.size ≤ g ∧ Below w.heap.size w w' := by
  refine (pblock_short w ao n c L h hL (by rw [← h.1]; exact (okB_len hf).1)).mono ?_
  rintro e w' ⟨hB, ⟨h2, -⟩ | ⟨-, g, rfl, h3, h4⟩⟩
  · rw [hf] at h2; cases h2
  · exact ⟨g, rfl, h3, h4, hB⟩
theorem rpblock_no (w : World) (ao : Option Addr) (n c : Nat) (L : List (Int × ByteArray)) (h : EAt w ao n L) (hL : ∀ e ∈ L, e.2.size ≤ 1000) (hn2 : n ≤ 9223372036854775807) (hf : okB L = false) : Calls Try.prog 20 #[.slice ao n c] w fun e w' => e = .returned (.tuple #[.slice none 0 0, .bool false]) ∧ Below w.heap.size w w' := by
  by_cases hn : 32 < n
  · refine (rpblock_long w ao n c hn hn2).mono ?_
    rintro e w' ⟨rfl, rfl⟩
    exact ⟨rfl, Below.refl _ _⟩
  · refine (rpblock_short w ao n c L h hL (by omega)).mono ?_
    rintro e w' ⟨hB, ⟨-, rfl⟩ | ⟨h2, -⟩⟩
    · exact ⟨rfl, hB⟩
    · rw [hf] at h2; cases h2
theorem rpblock_yes (w : World) (ao : Option Addr) (n c : Nat) (L : List (Int × ByteArray)) (h : EAt w ao n L) (hL : ∀ e ∈ L, e.2.size ≤ 1000) (hf : okB L = true) : Calls Try.prog 20 #[.slice ao n c] w fun e w' => ∃ ap cp, e = .returned (.tuple #[.slice ap 1024 cp, .bool true]) ∧ BAt w' ap 1024 (blockL L) ∧ Below w.heap.size w w' := by
  refine (rpblock_short w ao n c L h hL (by rw [← h.1]; exact (okB_len hf).1)).mono ?_
  rintro e w' ⟨hB, ⟨h2, -⟩ | ⟨-, v, rfl, ho⟩⟩
  · rw [hf] at h2; cases h2
  · obtain ⟨ap, cp, rfl, hb, -⟩ := owns_BAt ho
    exact ⟨ap, cp, rfl, hb, hB⟩
theorem blockL_length {L : List (Int × ByteArray)} (h : okB L = true) : (blockL L).length = 1024 := by
  unfold blockL
  rw [List.length_append, catL_length _ (okB_len h).2, zeros_length]
  have := (okB_len h).1
  omega
theorem add1 (a : Addr) : a.add 1 = ⟨a.block, a.off + 1, none⟩ := by simp [Addr.add]
end Ent
end Go.Proofs.Yteegopccpgbakaa
