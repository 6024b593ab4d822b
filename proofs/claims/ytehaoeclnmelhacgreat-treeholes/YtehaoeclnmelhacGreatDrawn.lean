/-
  Functions whose regions draw their order.
-/
import Derived.Test.YtehaoeclnmelhacGreatSmall
namespace Go.Proofs.YtehaoeclnmelhacGreat
open Go Go.Proofs Go.RowKit Go.Shelf
/-- A geometry lies at block b. -/
def GAt (b : Nat) (G I D : Int) (W : World) : Prop := W.heap[b]? = some (.cells #[.int .i64 G, .int .i64 I, .int .i64 D] 26 (0, 0))
theorem GAt.lt {b : Nat} {G I D : Int} {W : World} (h : GAt b G I D W) : b < W.heap.size := lt_of_block h
theorem GAt.below {b : Nat} {G I D : Int} {W W' : World} {B : Nat} (h : GAt b G I D W) (hB : Below B W W') (hb : b < B) : GAt b G I D W' := by
  unfold GAt
  rw [hB.block b hb]
  exact h
theorem GAt.new (w : World) (G I D : Int) : GAt w.heap.size G I D (w.alloc (.cells #[.int .i64 G, .int .i64 I, .int .i64 D] 26)) := blk_new w _
/-- What an order of a region may lean on. -/
abbrev G3 (b : Nat) (G I D : Int) (W : World) : Prop := W.cell? ⟨b, 0, none⟩ = some (.int .i64 G) ∧ W.cell? ⟨b, 1, none⟩ = some (.int .i64 I) ∧ W.cell? ⟨b, 2, none⟩ = some (.int .i64 D)
theorem GAt.g3 {b : Nat} {G I D : Int} {W : World} (h : GAt b G I D W) : G3 b G I D W := ⟨blk_cell h 0, blk_cell h 1, blk_cell h 2⟩
end Go.Proofs.YtehaoeclnmelhacGreat
