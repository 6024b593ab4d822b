/-
  Functions whose regions draw their order.
-/
import Derived.Test.YtjhfkcngaknbdaaSmall
namespace Go.Proofs.Ytjhfkcngaknbdaa
open Go Go.Proofs Go.RowKit Go.Shelf
/-- A geometry lies at block b. -/
def GAt (b : Nat) (G I D : Int) (W : World) : Prop := W.heap[b]? = some (.cells #[.int .i64 G, .int .i64 I, .int .i64 D] 23 (0, 0))
theorem GAt.lt {b : Nat} {G I D : Int} {W : World} (h : GAt b G I D W) : b < W.heap.size := lt_of_block h
theorem GAt.below {b : Nat} {G I D : Int} {W W' : World} {B : Nat} (h : GAt b G I D W) (hB : Below B W W') (hb : b < B) : GAt b G I D W' := by
  unfold GAt
  rw [hB.block b hb]
  exact h
theorem GAt.new (w : World) (G I D : Int) : GAt w.heap.size G I D (w.alloc (.cells #[.int .i64 G, .int .i64 I, .int .i64 D] 23)) := blk_new w _
/-- What an order of a region may lean on. -/
abbrev G3 (b : Nat) (G I D : Int) (W : World) : Prop := W.cell? ⟨b, 0, none⟩ = some (.int .i64 G) ∧ W.cell? ⟨b, 1, none⟩ = some (.int .i64 I) ∧ W.cell? ⟨b, 2, none⟩ = some (.int .i64 D)
theorem GAt.g3 {b : Nat} {G I D : Int} {W : World} (h : GAt b G I D W) : G3 b G I D W := ⟨blk_cell h 0, blk_cell h 1, blk_cell h 2⟩
set_option maxRecDepth 100000 in
theorem dataof_any (w : World) (G I D k : Int) (hg : good G I D = true) (h0 : 0 ≤ k) (h8 : k ≤ 8) : Calls Try.prog 46 #[geo G I D, .int .i64 k] w fun e w' => e = .returned (.int .i64 (1 + k * (1 + I + D) + 1 + I)) ∧ Below w.heap.size w w' := by
  have hb := good_iff.1 hg
  have hm := mul_fits h0 h8 (b := 1 + I + D) (B := 1005) (by omega) (by omega)
  obtain ⟨m, em⟩ : ∃ m, 1 + k * (1 + I + D) = m := ⟨_, rfl⟩
  have h1 : IntKind.i64.wrap (m + 1) = m + 1 := by rw [IntKind.wrap_i64]; omega
  have h2 : IntKind.i64.wrap (m + 1 + I) = m + 1 + I := by rw [IntKind.wrap_i64]; omega
  have H := Hid.mk (fun w => headof_any w G I D k hg h0 h8)
  rw [em] at H ⊢
  clear hb hg hm em
  go_enter Try.func46, Try.ntmps46
  go_wp2_with fail
  have hG := GAt.new w G I D
  have HK : Hid (∀ W', Below (w.alloc (.cells #[.int .i64 G, .int .i64 I, .int .i64 D] 23)).heap.size (w.alloc (.cells #[.int .i64 G, .int .i64 I, .int .i64 D] 23)).drew W' → G3 w.heap.size G I D W') := Hid.mk (fun W' hB => (GAt.below (W := (w.alloc (.cells #[.int .i64 G, .int .i64 I, .int .i64 D] 23)).drew) hG hB (by simp)).g3)
  refine wp_region_held_drew (S := G3 w.heap.size G I D) (by kernel_rfl) (HK.out _ (Below.refl _ _)) (fun hH => ?_)
  clear hG
  change wpAnyH Try.prog Region.Mode.any _ _ _ 8 _ _ _
  refine takeH 0 5 (geo G I D) rfl (by kernel_rfl) (by kernel_rfl) (by kernel_rfl) (by kernel_rfl) (fun _ _ _ h => h) (by kernel_rfl) (fun w hw => by (try dsimp only at hw); go_simp) hH ?_
  simp only [List.setIfInBounds_toArray, List.set_cons_zero, List.set_cons_succ]
  refine takeH 1 6 (.int .i64 (k)) rfl (by kernel_rfl) (by kernel_rfl) (by kernel_rfl) (by kernel_rfl) (fun _ _ _ h => h) (by kernel_rfl) (fun w hw => by kernel_rfl) hH ?_
  simp only [List.setIfInBounds_toArray, List.set_cons_zero, List.set_cons_succ]
  refine takeH 4 9 (.pointer (some ⟨w.heap.size, 1, none⟩)) rfl (by kernel_rfl) (by kernel_rfl) (by kernel_rfl) (by kernel_rfl) (fun _ _ _ h => h) (by kernel_rfl) (fun w hw => by (try dsimp only at hw); go_simp) hH ?_
  simp only [List.setIfInBounds_toArray, List.set_cons_zero, List.set_cons_succ]
  refine takeH 5 10 (.int .i64 (I)) rfl (by kernel_rfl) (by kernel_rfl) (by kernel_rfl) (by kernel_rfl) (fun _ _ _ h => h) (by kernel_rfl) (fun w hw => by (try dsimp only at hw); go_simp) hH ?_
  simp only [List.setIfInBounds_toArray, List.set_cons_zero, List.set_cons_succ]
  refine stepH_call 2 7 rfl (by kernel_rfl) (by kernel_rfl) (by kernel_rfl) 51 #[.tmp 5, .tmp 6] #[23, 3] (by kernel_rfl) (enters_of Try.func51 (by kernel_rfl) rfl) #[geo G I D, .int .i64 (k)] (by kernel_rfl) (H.out _) ?_
  rintro e w5 ⟨rfl, hB5⟩
  have hH5 := HK.out w5 hB5
  refine ⟨_, rfl, hH5, ?_⟩
  simp only [List.setIfInBounds_toArray, List.set_cons_zero, List.set_cons_succ]
  refine takeH 3 8 (.int .i64 (m + 1)) rfl (by kernel_rfl) (by kernel_rfl) (by kernel_rfl) (by kernel_rfl) (fun _ _ _ h => h) (by kernel_rfl) (fun w hw => by (try dsimp only at hw); go_simp) hH5 ?_
  simp only [List.setIfInBounds_toArray, List.set_cons_zero, List.set_cons_succ]
  refine takeH 6 11 (.int .i64 (m + 1 + I)) rfl (by kernel_rfl) (by kernel_rfl) (by kernel_rfl) (by kernel_rfl) (fun _ _ _ h => h) (by kernel_rfl) (fun w hw => by (try dsimp only at hw); go_simp) hH5 ?_
  simp only [List.setIfInBounds_toArray, List.set_cons_zero, List.set_cons_succ]
  refine takeH 7 4 (.int .i64 (m + 1 + I)) rfl (by kernel_rfl) (by kernel_rfl) (by kernel_rfl) (by kernel_rfl) (fun _ _ _ h => h) (by kernel_rfl) (fun w hw => by kernel_rfl) hH5 ?_
  simp only [List.setIfInBounds_toArray, List.set_cons_zero, List.set_cons_succ]
  refine wpAnyH_done (by kernel_rfl) ?_ _
  go_wp2
  go_ret
  exact ⟨rfl, ((Below.refl _ w).alloc (Nat.le_refl _) _).drew.trans (hB5.mono (by simp))⟩
end Go.Proofs.Ytjhfkcngaknbdaa
