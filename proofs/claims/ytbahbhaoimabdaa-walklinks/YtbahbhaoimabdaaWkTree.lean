/-
  The example's nodes.
-/
import Derived.Test.YtbahbhaoimabdaaWkRef
namespace Go.Proofs.Ytbahbhaoimabdaa
open Go Go.Proofs Go.RowKit Go.Shelf

/-- The example's nodes lie at blocks b, b + 1 and b + 2. -/
structure ExAt (W : World) (b : Nat) : Prop where
  one : W.heap[b]? = some (.cells #[.int .i64 5, .string ⟨#[97]⟩] 41 (0, 0))
  two : W.heap[b + 1]? = some (.cells #[.int .i64 0, .string ⟨#[]⟩, .int .i64 9, .string ⟨#[98]⟩] 41 (0, 0))
  all : W.heap[b + 2]? = some (.cells #[.int .i64 1, .int .i64 2, .int .i64 0, .int .i64 0, .slice none 0 0, .slice (some ⟨b, 0, none⟩) 1 1, .int .i64 5, .int .i64 2, .int .i64 0, .int .i64 0, .slice none 0 0, .slice (some ⟨b + 1, 0, none⟩) 2 2, .int .i64 9, .int .i64 1, .int .i64 0, .int .i64 0, .slice none 0 0, .slice none 0 0] 39 (0, 0))
theorem ExAt.blw {W W' : World} {b : Nat} (h : ExAt W b) (hB : Below W.heap.size W W') : ExAt W' b :=
  ⟨(hB.block _ (lt_of_block h.one)).trans h.one, (hB.block _ (lt_of_block h.two)).trans h.two, (hB.block _ (lt_of_block h.all)).trans h.all⟩
set_option maxRecDepth 100000 in
set_option maxHeartbeats 4000000 in
theorem tree_any (w : World) : Calls Try.prog 21 #[] w fun e w' => e = .returned (.slice (some ⟨w.heap.size + 2, 0, none⟩) 3 3) ∧ ExAt w' w.heap.size ∧ Below w.heap.size w w' := by
  go_enter Try.func21, Try.ntmps21
  go_wp2
  go_ret
  refine ⟨rfl, ⟨?_, ?_, ?_⟩, (((Below.refl _ w).alloc (Nat.le_refl _) _).alloc (by simp) _).alloc (by simp; omega) _⟩
  · exact (Below.heap_alloc _ _ _ (by simp; omega)).trans ((Below.heap_alloc _ _ _ (by simp)).trans (blk_new w _))
  · exact (Below.heap_alloc _ _ _ (by simp)).trans (two_new w _ _)
  · have h : ((w.alloc (.cells #[.int .i64 5, .string ⟨#[97]⟩] 41)).alloc (.cells #[.int .i64 0, .string ⟨#[]⟩, .int .i64 9, .string ⟨#[98]⟩] 41)).heap.size = w.heap.size + 2 := by simp
    rw [← h]
    exact blk_new _ _
end Go.Proofs.Ytbahbhaoimabdaa
