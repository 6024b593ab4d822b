/-
  What the small functions do: within, Check, num, Good, the blocks and inodes of a group, headOf, dataOf.
-/
import Derived.Test.YtjhfkcngaknbdaaAll
namespace Go.Proofs.Ytjhfkcngaknbdaa
open Go Go.Proofs Go.RowKit Go.Shelf
/-- A geometry as a value. -/
abbrev geo (G I D : Int) : Value := .agg #[.int .i64 G, .int .i64 I, .int .i64 D]
/-- May a geometry be? -/
def good (G I D : Int) : Bool := decide (1 ≤ G) && decide (G ≤ 8) && (decide (1 ≤ I) && decide (I ≤ 4)) && (decide (8 ≤ D) && decide (D ≤ 1000))
theorem good_iff {G I D : Int} : good G I D = true ↔ 1 ≤ G ∧ G ≤ 8 ∧ 1 ≤ I ∧ I ≤ 4 ∧ 8 ≤ D ∧ D ≤ 1000 := by
  simp [good, and_assoc]
set_option maxRecDepth 100000 in
theorem within_any (w : World) (n a b : Int) : Calls Try.prog 40 #[.int .i64 n, .int .i64 a, .int .i64 b] w fun e w' => e = .returned (.bool (decide (a ≤ n) && decide (n ≤ b))) ∧ w' = w := by
  cases h1 : decide (a ≤ n) <;> cases h2 : decide (n ≤ b)
  all_goals
    go_enter Try.func40, Try.ntmps40
    go_wp2
    go_ret
    exact ⟨rfl, rfl⟩
/-- The number that Check answers. -/
def chk (G I D : Int) : Int := if good G I D = true then 0 else 1
set_option maxRecDepth 100000 in
theorem check_any (w : World) (G I D : Int) : Calls Try.prog 26 #[geo G I D] w fun e w' => e = .returned (.int .i64 (chk G I D)) ∧ Below w.heap.size w w' := by
  have H := Hid.mk within_any
  go_enter Try.func26, Try.ntmps26
  go_wp2_with (go_at_call 40; refine (H.out _ _ _ _).mono ?_; rintro e w' ⟨rfl, hw⟩; subst w')
  all_goals
    go_ret
    refine ⟨?_, (Below.refl _ w).alloc (Nat.le_refl _) _⟩
    try simp only [chk]
    try rw [if_pos (good_iff.2 (by simp at *; omega))]
    try rw [if_neg (fun h => by have := good_iff.1 h; simp at *; omega)]
    rfl
set_option maxRecDepth 100000 in
theorem good_any (w : World) (G I D : Int) : Calls Try.prog 8 #[geo G I D] w fun e w' => e = .returned (.bool (good G I D)) ∧ Below w.heap.size w w' := by
  cases h1 : decide (1 ≤ G) with
  | false =>
    have HG : Hid (good G I D = false) := Hid.mk (by unfold good; rw [h1]; simp)
    go_enter Try.func8, Try.ntmps8
    go_wp2
    go_ret
    exact ⟨by rw [HG.out]; rfl, (Below.refl _ w).alloc (Nat.le_refl _) _⟩
  | true =>
    cases h2 : decide (G ≤ 8) with
    | false =>
      have HG : Hid (good G I D = false) := Hid.mk (by unfold good; rw [h1, h2]; simp)
      go_enter Try.func8, Try.ntmps8
      go_wp2
      go_ret
      exact ⟨by rw [HG.out]; rfl, (Below.refl _ w).alloc (Nat.le_refl _) _⟩
    | true =>
      cases h3 : decide (1 ≤ I) with
      | false =>
        have HG : Hid (good G I D = false) := Hid.mk (by unfold good; rw [h1, h2, h3]; simp)
        go_enter Try.func8, Try.ntmps8
        go_wp2
        go_ret
        exact ⟨by rw [HG.out]; rfl, (Below.refl _ w).alloc (Nat.le_refl _) _⟩
      | true =>
        cases h4 : decide (I ≤ 4) with
        | false =>
          have HG : Hid (good G I D = false) := Hid.mk (by unfold good; rw [h1, h2, h3, h4]; simp)
          go_enter Try.func8, Try.ntmps8
          go_wp2
          go_ret
          exact ⟨by rw [HG.out]; rfl, (Below.refl _ w).alloc (Nat.le_refl _) _⟩
        | true =>
          cases h5 : decide (8 ≤ D) with
          | false =>
            have HG : Hid (good G I D = false) := Hid.mk (by unfold good; rw [h1, h2, h3, h4, h5]; simp)
            go_enter Try.func8, Try.ntmps8
            go_wp2
            go_ret
            exact ⟨by rw [HG.out]; rfl, (Below.refl _ w).alloc (Nat.le_refl _) _⟩
          | true =>
            cases h6 : decide (D ≤ 1000) with
            | false =>
              have HG : Hid (good G I D = false) := Hid.mk (by unfold good; rw [h1, h2, h3, h4, h5, h6]; simp)
              go_enter Try.func8, Try.ntmps8
              go_wp2
              go_ret
              exact ⟨by rw [HG.out]; rfl, (Below.refl _ w).alloc (Nat.le_refl _) _⟩
            | true =>
              have HG : Hid (good G I D = true) := Hid.mk (by unfold good; rw [h1, h2, h3, h4, h5, h6]; simp)
              go_enter Try.func8, Try.ntmps8
              go_wp2
              go_ret
              exact ⟨by rw [HG.out]; rfl, (Below.refl _ w).alloc (Nat.le_refl _) _⟩
set_option maxRecDepth 100000 in
theorem gblocks_any (w : World) (G I D : Int) (hg : good G I D = true) : Calls Try.prog 59 #[geo G I D] w fun e w' => e = .returned (.int .i64 (1 + I + D)) ∧ Below w.heap.size w w' := by
  have hb := good_iff.1 hg
  have h1 : IntKind.i64.wrap (1 + I) = 1 + I := by rw [IntKind.wrap_i64]; omega
  have h2 : IntKind.i64.wrap (1 + I + D) = 1 + I + D := by rw [IntKind.wrap_i64]; omega
  clear hb hg
  go_enter Try.func59, Try.ntmps59
  go_wp2
  go_ret
  exact ⟨rfl, (Below.refl _ w).alloc (Nat.le_refl _) _⟩
set_option maxRecDepth 100000 in
theorem per_any (w : World) (G I D : Int) (hg : good G I D = true) : Calls Try.prog 39 #[geo G I D] w fun e w' => e = .returned (.int .i64 (1 + I + D)) ∧ Below w.heap.size w w' := by
  have hb := good_iff.1 hg
  have h1 : IntKind.i64.wrap (1 + I) = 1 + I := by rw [IntKind.wrap_i64]; omega
  have h2 : IntKind.i64.wrap (1 + I + D) = 1 + I + D := by rw [IntKind.wrap_i64]; omega
  clear hb hg
  go_enter Try.func39, Try.ntmps39
  go_wp2
  go_ret
  exact ⟨rfl, (Below.refl _ w).alloc (Nat.le_refl _) _⟩
set_option maxRecDepth 100000 in
theorem ginodes_any (w : World) (G I D : Int) (hg : good G I D = true) : Calls Try.prog 63 #[geo G I D] w fun e w' => e = .returned (.int .i64 (I * 16)) ∧ Below w.heap.size w w' := by
  have hb := good_iff.1 hg
  have h1 : IntKind.i64.wrap (I * 16) = I * 16 := by rw [IntKind.wrap_i64]; omega
  clear hb hg
  go_enter Try.func63, Try.ntmps63
  go_wp2
  go_ret
  exact ⟨rfl, (Below.refl _ w).alloc (Nat.le_refl _) _⟩
set_option maxRecDepth 100000 in
theorem headof_any (w : World) (G I D k : Int) (hg : good G I D = true) (h0 : 0 ≤ k) (h8 : k ≤ 8) : Calls Try.prog 51 #[geo G I D, .int .i64 k] w fun e w' => e = .returned (.int .i64 (1 + k * (1 + I + D))) ∧ Below w.heap.size w w' := by
  have hb := good_iff.1 hg
  have hm := mul_fits h0 h8 (b := 1 + I + D) (B := 1005) (by omega) (by omega)
  have h1 : IntKind.i64.wrap (k * (1 + I + D)) = k * (1 + I + D) := by rw [IntKind.wrap_i64]; omega
  have h2 : IntKind.i64.wrap (1 + k * (1 + I + D)) = 1 + k * (1 + I + D) := by rw [IntKind.wrap_i64]; omega
  have H := Hid.mk (fun w => gblocks_any w G I D hg)
  clear hb hg hm
  go_enter Try.func51, Try.ntmps51
  go_wp2_with (go_at_call 59; refine (H.out _).mono ?_; rintro e w' ⟨rfl, hB⟩)
  go_ret
  exact ⟨rfl, ((Below.refl _ w).alloc (Nat.le_refl _) _).trans (hB.mono (by simp))⟩
end Go.Proofs.Ytjhfkcngaknbdaa
