/-
  What the small functions do: within, Check, num, Good, the blocks and inodes of a group, headOf, dataOf.
-/
import Derived.Test.YtehaoeclnmelhacGreatNames
namespace Go.Proofs.YtehaoeclnmelhacGreat
open Go Go.Proofs Go.RowKit Go.Shelf
/-- A geometry as a value. -/
abbrev geo (G I D : Int) : Value := .agg #[.int .i64 G, .int .i64 I, .int .i64 D]
/-- May a geometry be? -/
def good (G I D : Int) : Bool := decide (1 ≤ G) && decide (G ≤ 8) && (decide (1 ≤ I) && decide (I ≤ 4)) && (decide (8 ≤ D) && decide (D ≤ 1000))
theorem good_iff {G I D : Int} : good G I D = true ↔ 1 ≤ G ∧ G ≤ 8 ∧ 1 ≤ I ∧ I ≤ 4 ∧ 8 ≤ D ∧ D ≤ 1000 := by
  simp [good, and_assoc]
set_option maxRecDepth 100000 in
theorem within_any (w : World) (n a b : Int) : Calls Tryz.prog 88 #[.int .i64 n, .int .i64 a, .int .i64 b] w fun e w' => e = .returned (.bool (decide (a ≤ n) && decide (n ≤ b))) ∧ w' = w := by
  cases h1 : decide (a ≤ n) <;> cases h2 : decide (n ≤ b)
  all_goals
    go_enter Tryz.func88, Tryz.ntmps88
    go_wp2
    go_ret
    exact ⟨rfl, rfl⟩
/-- The number that Check answers. -/
def chk (G I D : Int) : Int := if good G I D = true then 0 else 1
set_option maxRecDepth 100000 in
theorem check_any (w : World) (G I D : Int) : Calls Tryz.prog 81 #[geo G I D] w fun e w' => e = .returned (.int .i64 (chk G I D)) ∧ Below w.heap.size w w' := by
  have H := Hid.mk within_any
  go_enter Tryz.func81, Tryz.ntmps81
  go_wp2_with (go_at_call 88; refine (H.out _ _ _ _).mono ?_; rintro e w' ⟨rfl, hw⟩; subst w')
  all_goals
    go_ret
    refine ⟨?_, (Below.refl _ w).alloc (Nat.le_refl _) _⟩
    try simp only [chk]
    try rw [if_pos (good_iff.2 (by simp at *; omega))]
    try rw [if_neg (fun h => by have := good_iff.1 h; simp at *; omega)]
    rfl
set_option maxRecDepth 100000 in
theorem ginodes_any (w : World) (G I D : Int) (hg : good G I D = true) : Calls Tryz.prog 82 #[geo G I D] w fun e w' => e = .returned (.int .i64 (I * 16)) ∧ Below w.heap.size w w' := by
  have hb := good_iff.1 hg
  have h1 : IntKind.i64.wrap (I * 16) = I * 16 := by rw [IntKind.wrap_i64]; omega
  clear hb hg
  go_enter Tryz.func82, Tryz.ntmps82
  go_wp2
  go_ret
  exact ⟨rfl, (Below.refl _ w).alloc (Nat.le_refl _) _⟩
end Go.Proofs.YtehaoeclnmelhacGreat
