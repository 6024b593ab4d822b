/-
  Superblocks: fill and PackSuper of the reference, Pack of the program.
-/
import Derived.Test.YtjhfkcngaknbdaaSupNums
import Derived.Lib.SlBytesConst
namespace Go.Proofs.Ytjhfkcngaknbdaa
open Go Go.Proofs Go.RowKit Go.Shelf
namespace Sup
set_option maxRecDepth 100000 in
theorem append_zeros_below (w : World) (base : Nat) (v : Value) (n m : Nat) (xs : List Int) (hown : w.ownsRow base 5 1 v n (By xs)) (hbase : base ≤ w.heap.size) (hn : 0 < n) (hm : 0 < m) (hbig : n + m ≤ 16777216) :
    ∃ v' w', (Builtin.append_ #[39, 3] 39 #[v, .int .i64 m]).run Try.prog w = .ok v' w' ∧ w'.ownsRow base 5 1 v' (n + m) (By (xs ++ List.replicate m 0)) ∧ Below base w w' := by
  obtain ⟨v', w', h1, h2, h3⟩ := append_zeros_run w base v n m xs hown hbase hn hm hbig
  exact ⟨v', w', h1, h2, (Below.refl _ w).grown h3 hbase (fun k hk => (hown.lt k hk).1)⟩
/-! superblocks -/
def lockL : List Int := [76, 79, 67, 75, 71, 65, 84, 69]
/-- The first 20 bytes of a superblock. -/
def hdrL (G I D : Int) : List Int := lockL ++ leL G 4 ++ leL I 4 ++ leL D 4
/-- A superblock. -/
def superL (G I D : Int) : List Int := hdrL G I D ++ leL (sumL (hdrL G I D)) 4 ++ zeros 1000
theorem hdrL_length (G I D : Int) : (hdrL G I D).length = 20 := by simp [hdrL, leL_length, lockL]
theorem superL_length (G I D : Int) : (superL G I D).length = 1024 := by simp [superL, hdrL_length, leL_length, zeros_length]
theorem lockL_bound : ∀ x ∈ lockL, 0 ≤ x ∧ x ≤ 255 := by decide
theorem hdrL_bound (G I D : Int) : ∀ x ∈ hdrL G I D, 0 ≤ x ∧ x ≤ 255 := by
  intro x hx
  simp only [hdrL, List.mem_append] at hx
  rcases hx with ((hx | hx) | hx) | hx
  · exact lockL_bound x hx
  · exact leL_bound _ _ x hx
  · exact leL_bound _ _ x hx
  · exact leL_bound _ _ x hx
theorem superL_bound (G I D : Int) : ∀ x ∈ superL G I D, 0 ≤ x ∧ x ≤ 255 := by
  intro x hx
  simp only [superL, List.mem_append] at hx
  rcases hx with (hx | hx) | hx
  · exact hdrL_bound G I D x hx
  · exact leL_bound _ _ x hx
  · exact zeros_bound _ x hx
set_option maxRecDepth 100000 in
theorem lock_src (w : World) (B : Nat) : Src (w.alloc (.cells (By lockL).toArray 5 (8, 9))) B (.slice (some ⟨w.heap.size, 0, none⟩) 8 8) 8 lockL := by
  refine .inr ⟨_, rfl, rfl, fun _ => ⟨_, rfl, by simp, fun i hi => ?_⟩⟩
  rw [add_at, blk_cell (blk_new w _), Nat.zero_add]
  simpa using By_get lockL i hi
end Sup
end Go.Proofs.Ytjhfkcngaknbdaa
