/-
  What the small functions do: within, Check, num, Good, the blocks and inodes of a group, headOf, dataOf.
-/
import Derived.Test.YtejnmpnioeamhaaGreatLayA
import Derived.BigQuiet
namespace Go.Proofs.YtejnmpnioeamhaaGreat
open Go Go.Proofs Go.RowKit Go.Shelf
/-- A geometry as a value. -/
abbrev geo (G I D : Int) : Value := .agg #[.int .i64 G, .int .i64 I, .int .i64 D]
/-- May a geometry be? -/
def good (G I D : Int) : Bool := decide (1 ≤ G) && decide (G ≤ 8) && (decide (1 ≤ I) && decide (I ≤ 4)) && (decide (8 ≤ D) && decide (D ≤ 1000))
theorem good_iff {G I D : Int} : good G I D = true ↔ 1 ≤ G ∧ G ≤ 8 ∧ 1 ≤ I ∧ I ≤ 4 ∧ 8 ≤ D ∧ D ≤ 1000 := by
  simp [good, and_assoc]
set_option maxRecDepth 100000 in
theorem within_any (w : World) (n a b : Int) : Calls Tryz.prog 25 #[.int .i64 n, .int .i64 a, .int .i64 b] w fun e w' => e = .returned (.bool (decide (a ≤ n) && decide (n ≤ b))) ∧ w' = w := by
  cases h1 : decide (a ≤ n) <;> cases h2 : decide (n ≤ b)
  all_goals
    go_enter Tryz.func25, Tryz.ntmps25
    go_wp2
    go_ret
    exact ⟨rfl, rfl⟩
/-- The number that Check answers. -/
def chk (G I D : Int) : Int := if good G I D = true then 0 else 1
set_option maxRecDepth 100000 in
theorem check_any (w : World) (G I D : Int) : Calls Tryz.prog 11 #[geo G I D] w fun e w' => e = .returned (.int .i64 (chk G I D)) ∧ Below w.heap.size w w' := by
  have H := Hid.mk within_any
  go_enter Tryz.func11, Tryz.ntmps11
  go_wp2_with (go_at_call 25; refine (H.out _ _ _ _).mono ?_; rintro e w' ⟨rfl, hw⟩; subst w')
  all_goals
    go_ret
    refine ⟨?_, (Below.refl _ w).alloc (Nat.le_refl _) _⟩
    try simp only [chk]
    try rw [if_pos (good_iff.2 (by simp at *; omega))]
    try rw [if_neg (fun h => by have := good_iff.1 h; simp at *; omega)]
    rfl
set_option maxRecDepth 100000 in
theorem good_any (w : World) (G I D : Int) : Calls Tryz.prog 5 #[geo G I D] w fun e w' => e = .returned (.bool (good G I D)) ∧ Below w.heap.size w w' := by
  cases h1 : decide (1 ≤ G) with
  | false =>
    have HG : Hid (good G I D = false) := Hid.mk (by unfold good; rw [h1]; simp)
    go_enter Tryz.func5, Tryz.ntmps5
    go_wp2
    go_ret
    exact ⟨by rw [HG.out]; rfl, (Below.refl _ w).alloc (Nat.le_refl _) _⟩
  | true =>
    cases h2 : decide (G ≤ 8) with
    | false =>
      have HG : Hid (good G I D = false) := Hid.mk (by unfold good; rw [h1, h2]; simp)
      go_enter Tryz.func5, Tryz.ntmps5
      go_wp2
      go_ret
      exact ⟨by rw [HG.out]; rfl, (Below.refl _ w).alloc (Nat.le_refl _) _⟩
    | true =>
      cases h3 : decide (1 ≤ I) with
      | false =>
        have HG : Hid (good G I D = false) := Hid.mk (by unfold good; rw [h1, h2, h3]; simp)
        go_enter Tryz.func5, Tryz.ntmps5
        go_wp2
        go_ret
        exact ⟨by rw [HG.out]; rfl, (Below.refl _ w).alloc (Nat.le_refl _) _⟩
      | true =>
        cases h4 : decide (I ≤ 4) with
        | false =>
          have HG : Hid (good G I D = false) := Hid.mk (by unfold good; rw [h1, h2, h3, h4]; simp)
          go_enter Tryz.func5, Tryz.ntmps5
          go_wp2
          go_ret
          exact ⟨by rw [HG.out]; rfl, (Below.refl _ w).alloc (Nat.le_refl _) _⟩
        | true =>
          cases h5 : decide (8 ≤ D) with
          | false =>
            have HG : Hid (good G I D = false) := Hid.mk (by unfold good; rw [h1, h2, h3, h4, h5]; simp)
            go_enter Tryz.func5, Tryz.ntmps5
            go_wp2
            go_ret
            exact ⟨by rw [HG.out]; rfl, (Below.refl _ w).alloc (Nat.le_refl _) _⟩
          | true =>
            cases h6 : decide (D ≤ 1000) with
            | false =>
              have HG : Hid (good G I D = false) := Hid.mk (by unfold good; rw [h1, h2, h3, h4, h5, h6]; simp)
              go_enter Tryz.func5, Tryz.ntmps5
              go_wp2
              go_ret
              exact ⟨by rw [HG.out]; rfl, (Below.refl _ w).alloc (Nat.le_refl _) _⟩
            | true =>
              have HG : Hid (good G I D = true) := Hid.mk (by unfold good; rw [h1, h2, h3, h4, h5, h6]; simp)
              go_enter Tryz.func5, Tryz.ntmps5
              go_wp2
              go_ret
              exact ⟨by rw [HG.out]; rfl, (Below.refl _ w).alloc (Nat.le_refl _) _⟩
set_option maxRecDepth 100000 in
theorem gblocks_any (w : World) (G I D : Int) (hg : good G I D = true) : Calls Tryz.prog 26 #[geo G I D] w fun e w' => e = .returned (.int .i64 (1 + I + D)) ∧ Below w.heap.size w w' := by
  have hb := good_iff.1 hg
  have h1 : IntKind.i64.wrap (1 + I) = 1 + I := by rw [IntKind.wrap_i64]; omega
  have h2 : IntKind.i64.wrap (1 + I + D) = 1 + I + D := by rw [IntKind.wrap_i64]; omega
  clear hb hg
  go_enter Tryz.func26, Tryz.ntmps26
  go_wp2
  go_ret
  exact ⟨rfl, (Below.refl _ w).alloc (Nat.le_refl _) _⟩
set_option maxRecDepth 100000 in
theorem per_any (w : World) (G I D : Int) (hg : good G I D = true) : Calls Tryz.prog 76 #[geo G I D] w fun e w' => e = .returned (.int .i64 (1 + I + D)) ∧ Below w.heap.size w w' := by
  have hb := good_iff.1 hg
  have h1 : IntKind.i64.wrap (1 + I) = 1 + I := by rw [IntKind.wrap_i64]; omega
  have h2 : IntKind.i64.wrap (1 + I + D) = 1 + I + D := by rw [IntKind.wrap_i64]; omega
  clear hb hg
  go_enter Tryz.func76, Tryz.ntmps76
  go_wp2
  go_ret
  exact ⟨rfl, (Below.refl _ w).alloc (Nat.le_refl _) _⟩
set_option maxRecDepth 100000 in
theorem ginodes_any (w : World) (G I D : Int) (hg : good G I D = true) : Calls Tryz.prog 92 #[geo G I D] w fun e w' => e = .returned (.int .i64 (I * 16)) ∧ Below w.heap.size w w' := by
  have hb := good_iff.1 hg
  have h1 : IntKind.i64.wrap (I * 16) = I * 16 := by rw [IntKind.wrap_i64]; omega
  clear hb hg
  go_enter Tryz.func92, Tryz.ntmps92
  go_wp2
  go_ret
  exact ⟨rfl, (Below.refl _ w).alloc (Nat.le_refl _) _⟩
set_option maxRecDepth 100000 in
theorem headof_any (w : World) (G I D k : Int) (hg : good G I D = true) (h0 : 0 ≤ k) (h8 : k ≤ 8) : Calls Tryz.prog 66 #[geo G I D, .int .i64 k] w fun e w' => e = .returned (.int .i64 (1 + k * (1 + I + D))) ∧ Below w.heap.size w w' := by
  have hb := good_iff.1 hg
  have hm := mul_fits h0 h8 (b := 1 + I + D) (B := 1005) (by omega) (by omega)
  have h1 : IntKind.i64.wrap (k * (1 + I + D)) = k * (1 + I + D) := by rw [IntKind.wrap_i64]; omega
  have h2 : IntKind.i64.wrap (1 + k * (1 + I + D)) = 1 + k * (1 + I + D) := by rw [IntKind.wrap_i64]; omega
  have H := Hid.mk (fun w => gblocks_any w G I D hg)
  clear hb hg hm
  go_enter Tryz.func66, Tryz.ntmps66
  go_wp2_with (go_at_call 26; refine (H.out _).mono ?_; rintro e w' ⟨rfl, hB⟩)
  go_ret
  exact ⟨rfl, ((Below.refl _ w).alloc (Nat.le_refl _) _).trans (hB.mono (by simp))⟩
end Go.Proofs.YtejnmpnioeamhaaGreat
namespace Go.Proofs.YtejnmpnioeamhaaGreat
open Go Go.Proofs Go.RowKit Go.Shelf
/-- A geometry lies at block b. -/
def GAt (b : Nat) (G I D : Int) (W : World) : Prop := W.heap[b]? = some (.cells #[.int .i64 G, .int .i64 I, .int .i64 D] 23 (0, 0))
theorem GAt.lt {b : Nat} {G I D : Int} {W : World} (h : GAt b G I D W) : b < W.heap.size := lt_of_block h
theorem GAt.below {b : Nat} {G I D : Int} {W W' : World} {B : Nat} (h : GAt b G I D W) (hB : Below B W W') (hb : b < B) : GAt b G I D W' := by
  unfold GAt
  rw [hB.block b hb]
  exact h
theorem GAt.new (w : World) (G I D : Int) : GAt w.heap.size G I D (w.alloc (.cells #[.int .i64 G, .int .i64 I, .int .i64 D] 23)) := blk_new w _
/-- What an order of a region may lean on. -/
abbrev G3 (b : Nat) (G I D : Int) (W : World) : Prop := W.cell? ⟨b, 0, none⟩ = some (.int .i64 G) ∧ W.cell? ⟨b, 1, none⟩ = some (.int .i64 I) ∧ W.cell? ⟨b, 2, none⟩ = some (.int .i64 D)
theorem GAt.g3 {b : Nat} {G I D : Int} {W : World} (h : GAt b G I D W) : G3 b G I D W := ⟨blk_cell h 0, blk_cell h 1, blk_cell h 2⟩
set_option maxRecDepth 100000 in
theorem dataof_any (w : World) (G I D k : Int) (hg : good G I D = true) (h0 : 0 ≤ k) (h8 : k ≤ 8) : Calls Tryz.prog 67 #[geo G I D, .int .i64 k] w fun e w' => e = .returned (.int .i64 (1 + k * (1 + I + D) + 1 + I)) ∧ Below w.heap.size w w' := by
  have hb := good_iff.1 hg
  have hm := mul_fits h0 h8 (b := 1 + I + D) (B := 1005) (by omega) (by omega)
  obtain ⟨m, em⟩ : ∃ m, 1 + k * (1 + I + D) = m := ⟨_, rfl⟩
  have h1 : IntKind.i64.wrap (m + 1) = m + 1 := by rw [IntKind.wrap_i64]; omega
  have h2 : IntKind.i64.wrap (m + 1 + I) = m + 1 + I := by rw [IntKind.wrap_i64]; omega
  have H := Hid.mk (fun w => headof_any w G I D k hg h0 h8)
  rw [em] at H ⊢
  clear hb hg hm em
  go_enter Tryz.func67, Tryz.ntmps67
  go_wp2_with fail
  have hG := GAt.new w G I D
  have HK : Hid (∀ W', Below (w.alloc (.cells #[.int .i64 G, .int .i64 I, .int .i64 D] 23)).heap.size (w.alloc (.cells #[.int .i64 G, .int .i64 I, .int .i64 D] 23)).drew W' → G3 w.heap.size G I D W') := Hid.mk (fun W' hB => (GAt.below (W := (w.alloc (.cells #[.int .i64 G, .int .i64 I, .int .i64 D] 23)).drew) hG hB (by simp)).g3)
  refine wp_region_held_drew (S := G3 w.heap.size G I D) (by kernel_rfl) (HK.out _ (Below.refl _ _)) (fun hH => ?_)
  clear hG
  change wpAnyH Tryz.prog Region.Mode.any _ _ _ 8 _ _ _
  refine takeH 0 5 (geo G I D) rfl (by kernel_rfl) (by kernel_rfl) (by kernel_rfl) (by kernel_rfl) (fun _ _ _ h => h) (by kernel_rfl) (fun w hw => by (try dsimp only at hw); go_simp) hH ?_
  simp only [List.setIfInBounds_toArray, List.set_cons_zero, List.set_cons_succ]
  refine takeH 1 6 (.int .i64 (k)) rfl (by kernel_rfl) (by kernel_rfl) (by kernel_rfl) (by kernel_rfl) (fun _ _ _ h => h) (by kernel_rfl) (fun w hw => by kernel_rfl) hH ?_
  simp only [List.setIfInBounds_toArray, List.set_cons_zero, List.set_cons_succ]
  refine takeH 4 9 (.pointer (some ⟨w.heap.size, 1, none⟩)) rfl (by kernel_rfl) (by kernel_rfl) (by kernel_rfl) (by kernel_rfl) (fun _ _ _ h => h) (by kernel_rfl) (fun w hw => by (try dsimp only at hw); go_simp) hH ?_
  simp only [List.setIfInBounds_toArray, List.set_cons_zero, List.set_cons_succ]
  refine takeH 5 10 (.int .i64 (I)) rfl (by kernel_rfl) (by kernel_rfl) (by kernel_rfl) (by kernel_rfl) (fun _ _ _ h => h) (by kernel_rfl) (fun w hw => by (try dsimp only at hw); go_simp) hH ?_
  simp only [List.setIfInBounds_toArray, List.set_cons_zero, List.set_cons_succ]
  refine stepH_call 2 7 rfl (by kernel_rfl) (by kernel_rfl) (by kernel_rfl) 66 #[.tmp 5, .tmp 6] #[23, 3] (by kernel_rfl) (enters_of Tryz.func66 (by kernel_rfl) rfl) #[geo G I D, .int .i64 (k)] (by kernel_rfl) (H.out _) ?_
  rintro e w5 ⟨rfl, hB5⟩
  have hH5 := HK.out w5 hB5
  refine ⟨_, rfl, hH5, ?_⟩
  simp only [List.setIfInBounds_toArray, List.set_cons_zero, List.set_cons_succ]
  refine takeH 3 8 (.int .i64 (m + 1)) rfl (by kernel_rfl) (by kernel_rfl) (by kernel_rfl) (by kernel_rfl) (fun _ _ _ h => h) (by kernel_rfl) (fun w hw => by (try dsimp only at hw); go_simp) hH5 ?_
  simp only [List.setIfInBounds_toArray, List.set_cons_zero, List.set_cons_succ]
  refine takeH 6 11 (.int .i64 (m + 1 + I)) rfl (by kernel_rfl) (by kernel_rfl) (by kernel_rfl) (by kernel_rfl) (fun _ _ _ h => h) (by kernel_rfl) (fun w hw => by (try dsimp only at hw); go_simp) hH5 ?_
  simp only [List.setIfInBounds_toArray, List.set_cons_zero, List.set_cons_succ]
  refine takeH 7 4 (.int .i64 (m + 1 + I)) rfl (by kernel_rfl) (by kernel_rfl) (by kernel_rfl) (by kernel_rfl) (fun _ _ _ h => h) (by kernel_rfl) (fun w hw => by kernel_rfl) hH5 ?_
  simp only [List.setIfInBounds_toArray, List.set_cons_zero, List.set_cons_succ]
  refine wpAnyH_done (by kernel_rfl) ?_ _
  go_wp2
  go_ret
  exact ⟨rfl, ((Below.refl _ w).alloc (Nat.le_refl _) _).drew.trans (hB5.mono (by simp))⟩
end Go.Proofs.YtejnmpnioeamhaaGreat
namespace Go.Proofs.YtejnmpnioeamhaaGreat
open Go Go.Proofs Go.RowKit Go.Shelf
theorem check_yes (w : World) (G I D : Int) (hg : good G I D = true) : Calls Tryz.prog 11 #[geo G I D] w fun e w' => e = .returned (.int .i64 0) ∧ Below w.heap.size w w' := by
  have h := check_any w G I D
  unfold chk at h
  rwa [if_pos hg] at h
theorem check_no (w : World) (G I D : Int) (hg : good G I D = false) : Calls Tryz.prog 11 #[geo G I D] w fun e w' => e = .returned (.int .i64 1) ∧ Below w.heap.size w w' := by
  have h := check_any w G I D
  unfold chk at h
  rwa [if_neg (by simp [hg])] at h
theorem good_is (w : World) (G I D : Int) (b : Bool) (hg : good G I D = b) : Calls Tryz.prog 5 #[geo G I D] w fun e w' => e = .returned (.bool b) ∧ Below w.heap.size w w' := by
  have h := good_any w G I D
  rwa [hg] at h
set_option maxRecDepth 100000 in
/-- A call that took a geometry: what lies behind it. -/
theorem behind {w w1 : World} {G I D : Int} (hB : Below (w.alloc (.cells #[.int .i64 G, .int .i64 I, .int .i64 D] 23)).heap.size (w.alloc (.cells #[.int .i64 G, .int .i64 I, .int .i64 D] 23)) w1) : GAt w.heap.size G I D w1 ∧ Below w.heap.size w w1 :=
  ⟨(GAt.new w G I D).below hB (by simp), ((Below.refl _ w).alloc (Nat.le_refl _) _).trans (hB.mono (by simp))⟩
def totI (G I D : Int) : Int := if good G I D = true then 1 + G * (1 + I + D) else 0
def inoI (G I D : Int) : Int := if good G I D = true then G * (I * 16) else 0
def blkI (G I D : Int) : Int := if good G I D = true then G * D else 0
theorem tot_yes {G I D : Int} (h : good G I D = true) : totI G I D = 1 + G * (1 + I + D) := if_pos h
theorem ino_yes {G I D : Int} (h : good G I D = true) : inoI G I D = G * (I * 16) := if_pos h
theorem blk_yes {G I D : Int} (h : good G I D = true) : blkI G I D = G * D := if_pos h
theorem tot_no {G I D : Int} (h : good G I D = false) : totI G I D = 0 := if_neg (by simp [h])
theorem ino_no {G I D : Int} (h : good G I D = false) : inoI G I D = 0 := if_neg (by simp [h])
theorem blk_no {G I D : Int} (h : good G I D = false) : blkI G I D = 0 := if_neg (by simp [h])
set_option maxRecDepth 100000 in
theorem total_any (w : World) (G I D : Int) : Calls Tryz.prog 12 #[geo G I D] w fun e w' => e = .returned (.int .i64 (totI G I D)) ∧ Below w.heap.size w w' := by
  cases hg : good G I D with
  | false =>
    have HG := Hid.mk hg
    have HV := Hid.mk (tot_no hg)
    clear hg
    go_enter Tryz.func12, Tryz.ntmps12
    go_wp2_with (go_at_call 11; refine (check_no _ G I D HG.out).mono ?_; rintro e w1 ⟨rfl, hB⟩; obtain ⟨hG1, hB1⟩ := behind hB; obtain ⟨c0, c1, c2⟩ := hG1.g3; have HG1 := Hid.mk hG1; have HB1 := Hid.mk hB1; clear hB hG1 hB1)
    go_ret
    exact ⟨by rw [HV.out]; rfl, HB1.out⟩
  | true =>
    have hb := good_iff.1 hg
    have m1 := mul_fits (a := G) (A := 8) (b := 1 + I + D) (B := 1005) (by omega) (by omega) (by omega) (by omega)
    have m2 := mul_fits (a := G) (A := 8) (b := D) (B := 1000) (by omega) (by omega) (by omega) (by omega)
    have m3 := mul_fits (a := G) (A := 8) (b := I) (B := 4) (by omega) (by omega) (by omega) (by omega)
    have m4 : G * (I * 16) = G * I * 16 := by rw [Int.mul_assoc]
    have HG := Hid.mk hg
    have HV := Hid.mk (tot_yes hg)
    have h1 : IntKind.i64.wrap (G * (1 + I + D)) = G * (1 + I + D) := by rw [IntKind.wrap_i64]; omega
    have h2 : IntKind.i64.wrap (1 + G * (1 + I + D)) = 1 + G * (1 + I + D) := by rw [IntKind.wrap_i64]; omega
    clear hg hb m1 m2 m3 m4
    go_enter Tryz.func12, Tryz.ntmps12
    go_wp2_with (go_at_call 11; refine (check_yes _ G I D HG.out).mono ?_; rintro e w1 ⟨rfl, hB⟩; obtain ⟨hG1, hB1⟩ := behind hB; obtain ⟨c0, c1, c2⟩ := hG1.g3; have HG1 := Hid.mk hG1; have HB1 := Hid.mk hB1; clear hB hG1 hB1)
    have HK : Hid (∀ W', Below w1.heap.size w1.drew W' → G3 w.heap.size G I D W') := Hid.mk (fun W' hB => (GAt.below (W := w1.drew) HG1.out hB HG1.out.lt).g3)
    clear c0 c1 c2
    refine wp_region_held_drew (S := G3 w.heap.size G I D) (by kernel_rfl) (HK.out _ (Below.refl _ _)) (fun hH => ?_)
    change wpAnyH Tryz.prog Region.Mode.any _ _ _ 7 _ _ _
    refine takeH 0 6 (.pointer (some ⟨w.heap.size, 0, none⟩)) rfl (by kernel_rfl) (by kernel_rfl) (by kernel_rfl) (by kernel_rfl) (fun _ _ _ h => h) (by kernel_rfl) (fun w hw => by (try dsimp only at hw); go_simp) hH ?_
    simp only [List.setIfInBounds_toArray, List.set_cons_zero, List.set_cons_succ]
    refine takeH 1 7 (.int .i64 (G)) rfl (by kernel_rfl) (by kernel_rfl) (by kernel_rfl) (by kernel_rfl) (fun _ _ _ h => h) (by kernel_rfl) (fun w hw => by (try dsimp only at hw); go_simp) hH ?_
    simp only [List.setIfInBounds_toArray, List.set_cons_zero, List.set_cons_succ]
    refine takeH 2 8 (geo G I D) rfl (by kernel_rfl) (by kernel_rfl) (by kernel_rfl) (by kernel_rfl) (fun _ _ _ h => h) (by kernel_rfl) (fun w hw => by (try dsimp only at hw); go_simp) hH ?_
    simp only [List.setIfInBounds_toArray, List.set_cons_zero, List.set_cons_succ]
    refine stepH_call 3 9 rfl (by kernel_rfl) (by kernel_rfl) (by kernel_rfl) 26 #[.tmp 8] #[23] (by kernel_rfl) (enters_of Tryz.func26 (by kernel_rfl) rfl) #[geo G I D] (by kernel_rfl) (gblocks_any _ G I D HG.out) ?_
    rintro e w5 ⟨rfl, hB5⟩
    have hH5 := HK.out w5 hB5
    refine ⟨_, rfl, hH5, ?_⟩
    simp only [List.setIfInBounds_toArray, List.set_cons_zero, List.set_cons_succ]
    refine takeH 4 10 (.int .i64 (G * (1 + I + D))) rfl (by kernel_rfl) (by kernel_rfl) (by kernel_rfl) (by kernel_rfl) (fun _ _ _ h => h) (by kernel_rfl) (fun w hw => by (try dsimp only at hw); go_simp) hH5 ?_
    simp only [List.setIfInBounds_toArray, List.set_cons_zero, List.set_cons_succ]
    refine takeH 5 11 (.int .i64 (1 + G * (1 + I + D))) rfl (by kernel_rfl) (by kernel_rfl) (by kernel_rfl) (by kernel_rfl) (fun _ _ _ h => h) (by kernel_rfl) (fun w hw => by (try dsimp only at hw); go_simp) hH5 ?_
    simp only [List.setIfInBounds_toArray, List.set_cons_zero, List.set_cons_succ]
    refine takeH 6 2 (.int .i64 (1 + G * (1 + I + D))) rfl (by kernel_rfl) (by kernel_rfl) (by kernel_rfl) (by kernel_rfl) (fun _ _ _ h => h) (by kernel_rfl) (fun w hw => by kernel_rfl) hH5 ?_
    simp only [List.setIfInBounds_toArray, List.set_cons_zero, List.set_cons_succ]
    refine wpAnyH_done (by kernel_rfl) ?_ _
    go_wp2
    go_ret
    exact ⟨by rw [HV.out]; rfl, HB1.out.drew.trans (hB5.mono HB1.out.size)⟩
set_option maxRecDepth 100000 in
theorem rtotal_any (w : World) (G I D : Int) : Calls Tryz.prog 36 #[geo G I D] w fun e w' => e = .returned (.int .i64 (totI G I D)) ∧ Below w.heap.size w w' := by
  cases hg : good G I D with
  | false =>
    have HG := Hid.mk hg
    have HV := Hid.mk (tot_no hg)
    clear hg
    go_enter Tryz.func36, Tryz.ntmps36
    go_wp2_with (go_at_call 5; refine (good_is _ G I D false HG.out).mono ?_; rintro e w1 ⟨rfl, hB⟩; obtain ⟨hG1, hB1⟩ := behind hB; obtain ⟨c0, c1, c2⟩ := hG1.g3; have HG1 := Hid.mk hG1; have HB1 := Hid.mk hB1; clear hB hG1 hB1)
    go_ret
    exact ⟨by rw [HV.out]; rfl, HB1.out⟩
  | true =>
    have hb := good_iff.1 hg
    have m1 := mul_fits (a := G) (A := 8) (b := 1 + I + D) (B := 1005) (by omega) (by omega) (by omega) (by omega)
    have m2 := mul_fits (a := G) (A := 8) (b := D) (B := 1000) (by omega) (by omega) (by omega) (by omega)
    have m3 := mul_fits (a := G) (A := 8) (b := I) (B := 4) (by omega) (by omega) (by omega) (by omega)
    have m4 : G * (I * 16) = G * I * 16 := by rw [Int.mul_assoc]
    have HG := Hid.mk hg
    have HV := Hid.mk (tot_yes hg)
    have h1 : IntKind.i64.wrap (G * (1 + I + D)) = G * (1 + I + D) := by rw [IntKind.wrap_i64]; omega
    have h2 : IntKind.i64.wrap (1 + G * (1 + I + D)) = 1 + G * (1 + I + D) := by rw [IntKind.wrap_i64]; omega
    clear hg hb m1 m2 m3 m4
    go_enter Tryz.func36, Tryz.ntmps36
    go_wp2_with (go_at_call 5; refine (good_is _ G I D true HG.out).mono ?_; rintro e w1 ⟨rfl, hB⟩; obtain ⟨hG1, hB1⟩ := behind hB; obtain ⟨c0, c1, c2⟩ := hG1.g3; have HG1 := Hid.mk hG1; have HB1 := Hid.mk hB1; clear hB hG1 hB1)
    have HK : Hid (∀ W', Below w1.heap.size w1.drew W' → G3 w.heap.size G I D W') := Hid.mk (fun W' hB => (GAt.below (W := w1.drew) HG1.out hB HG1.out.lt).g3)
    clear c0 c1 c2
    refine wp_region_held_drew (S := G3 w.heap.size G I D) (by kernel_rfl) (HK.out _ (Below.refl _ _)) (fun hH => ?_)
    change wpAnyH Tryz.prog Region.Mode.any _ _ _ 7 _ _ _
    refine takeH 0 8 (.pointer (some ⟨w.heap.size, 0, none⟩)) rfl (by kernel_rfl) (by kernel_rfl) (by kernel_rfl) (by kernel_rfl) (fun _ _ _ h => h) (by kernel_rfl) (fun w hw => by (try dsimp only at hw); go_simp) hH ?_
    simp only [List.setIfInBounds_toArray, List.set_cons_zero, List.set_cons_succ]
    refine takeH 1 9 (.int .i64 (G)) rfl (by kernel_rfl) (by kernel_rfl) (by kernel_rfl) (by kernel_rfl) (fun _ _ _ h => h) (by kernel_rfl) (fun w hw => by (try dsimp only at hw); go_simp) hH ?_
    simp only [List.setIfInBounds_toArray, List.set_cons_zero, List.set_cons_succ]
    refine takeH 2 10 (geo G I D) rfl (by kernel_rfl) (by kernel_rfl) (by kernel_rfl) (by kernel_rfl) (fun _ _ _ h => h) (by kernel_rfl) (fun w hw => by (try dsimp only at hw); go_simp) hH ?_
    simp only [List.setIfInBounds_toArray, List.set_cons_zero, List.set_cons_succ]
    refine stepH_call 3 11 rfl (by kernel_rfl) (by kernel_rfl) (by kernel_rfl) 76 #[.tmp 10] #[23] (by kernel_rfl) (enters_of Tryz.func76 (by kernel_rfl) rfl) #[geo G I D] (by kernel_rfl) (per_any _ G I D HG.out) ?_
    rintro e w5 ⟨rfl, hB5⟩
    have hH5 := HK.out w5 hB5
    refine ⟨_, rfl, hH5, ?_⟩
    simp only [List.setIfInBounds_toArray, List.set_cons_zero, List.set_cons_succ]
    refine takeH 4 12 (.int .i64 (G * (1 + I + D))) rfl (by kernel_rfl) (by kernel_rfl) (by kernel_rfl) (by kernel_rfl) (fun _ _ _ h => h) (by kernel_rfl) (fun w hw => by (try dsimp only at hw); go_simp) hH5 ?_
    simp only [List.setIfInBounds_toArray, List.set_cons_zero, List.set_cons_succ]
    refine takeH 5 13 (.int .i64 (1 + G * (1 + I + D))) rfl (by kernel_rfl) (by kernel_rfl) (by kernel_rfl) (by kernel_rfl) (fun _ _ _ h => h) (by kernel_rfl) (fun w hw => by (try dsimp only at hw); go_simp) hH5 ?_
    simp only [List.setIfInBounds_toArray, List.set_cons_zero, List.set_cons_succ]
    refine takeH 6 2 (.int .i64 (1 + G * (1 + I + D))) rfl (by kernel_rfl) (by kernel_rfl) (by kernel_rfl) (by kernel_rfl) (fun _ _ _ h => h) (by kernel_rfl) (fun w hw => by kernel_rfl) hH5 ?_
    simp only [List.setIfInBounds_toArray, List.set_cons_zero, List.set_cons_succ]
    refine wpAnyH_done (by kernel_rfl) ?_ _
    go_wp2
    go_ret
    exact ⟨by rw [HV.out]; rfl, HB1.out.drew.trans (hB5.mono HB1.out.size)⟩
set_option maxRecDepth 100000 in
theorem rinodes_any (w : World) (G I D : Int) : Calls Tryz.prog 37 #[geo G I D] w fun e w' => e = .returned (.int .i64 (inoI G I D)) ∧ Below w.heap.size w w' := by
  cases hg : good G I D with
  | false =>
    have HG := Hid.mk hg
    have HV := Hid.mk (ino_no hg)
    clear hg
    go_enter Tryz.func37, Tryz.ntmps37
    go_wp2_with (go_at_call 5; refine (good_is _ G I D false HG.out).mono ?_; rintro e w1 ⟨rfl, hB⟩; obtain ⟨hG1, hB1⟩ := behind hB; obtain ⟨c0, c1, c2⟩ := hG1.g3; have HG1 := Hid.mk hG1; have HB1 := Hid.mk hB1; clear hB hG1 hB1)
    go_ret
    exact ⟨by rw [HV.out]; rfl, HB1.out⟩
  | true =>
    have hb := good_iff.1 hg
    have m1 := mul_fits (a := G) (A := 8) (b := 1 + I + D) (B := 1005) (by omega) (by omega) (by omega) (by omega)
    have m2 := mul_fits (a := G) (A := 8) (b := D) (B := 1000) (by omega) (by omega) (by omega) (by omega)
    have m3 := mul_fits (a := G) (A := 8) (b := I) (B := 4) (by omega) (by omega) (by omega) (by omega)
    have m4 : G * (I * 16) = G * I * 16 := by rw [Int.mul_assoc]
    have HG := Hid.mk hg
    have HV := Hid.mk (ino_yes hg)
    have h1 : IntKind.i64.wrap (G * I) = G * I := by rw [IntKind.wrap_i64]; omega
    have h2 : IntKind.i64.wrap (G * I * 16) = G * I * 16 := by rw [IntKind.wrap_i64]; omega
    clear hg hb m1 m2 m3
    rw [m4] at HV
    clear m4
    go_enter Tryz.func37, Tryz.ntmps37
    go_wp2_with (go_at_call 5; refine (good_is _ G I D true HG.out).mono ?_; rintro e w1 ⟨rfl, hB⟩; obtain ⟨hG1, hB1⟩ := behind hB; obtain ⟨c0, c1, c2⟩ := hG1.g3; have HG1 := Hid.mk hG1; have HB1 := Hid.mk hB1; clear hB hG1 hB1)
    go_ret
    exact ⟨by rw [HV.out]; rfl, HB1.out⟩
set_option maxRecDepth 100000 in
theorem rblocks_any (w : World) (G I D : Int) : Calls Tryz.prog 45 #[geo G I D] w fun e w' => e = .returned (.int .i64 (blkI G I D)) ∧ Below w.heap.size w w' := by
  cases hg : good G I D with
  | false =>
    have HG := Hid.mk hg
    have HV := Hid.mk (blk_no hg)
    clear hg
    go_enter Tryz.func45, Tryz.ntmps45
    go_wp2_with (go_at_call 5; refine (good_is _ G I D false HG.out).mono ?_; rintro e w1 ⟨rfl, hB⟩; obtain ⟨hG1, hB1⟩ := behind hB; obtain ⟨c0, c1, c2⟩ := hG1.g3; have HG1 := Hid.mk hG1; have HB1 := Hid.mk hB1; clear hB hG1 hB1)
    go_ret
    exact ⟨by rw [HV.out]; rfl, HB1.out⟩
  | true =>
    have hb := good_iff.1 hg
    have m1 := mul_fits (a := G) (A := 8) (b := 1 + I + D) (B := 1005) (by omega) (by omega) (by omega) (by omega)
    have m2 := mul_fits (a := G) (A := 8) (b := D) (B := 1000) (by omega) (by omega) (by omega) (by omega)
    have m3 := mul_fits (a := G) (A := 8) (b := I) (B := 4) (by omega) (by omega) (by omega) (by omega)
    have m4 : G * (I * 16) = G * I * 16 := by rw [Int.mul_assoc]
    have HG := Hid.mk hg
    have HV := Hid.mk (blk_yes hg)
    have h1 : IntKind.i64.wrap (G * D) = G * D := by rw [IntKind.wrap_i64]; omega
    clear hg hb m1 m2 m3 m4
    go_enter Tryz.func45, Tryz.ntmps45
    go_wp2_with (go_at_call 5; refine (good_is _ G I D true HG.out).mono ?_; rintro e w1 ⟨rfl, hB⟩; obtain ⟨hG1, hB1⟩ := behind hB; obtain ⟨c0, c1, c2⟩ := hG1.g3; have HG1 := Hid.mk hG1; have HB1 := Hid.mk hB1; clear hB hG1 hB1)
    go_ret
    exact ⟨by rw [HV.out]; rfl, HB1.out⟩
def hdB (G I D k : Int) : Bool := good G I D && (decide (0 ≤ k) && decide (k < G))
def hdI (G I D k : Int) : Int := if hdB G I D k = true then 1 + k * (1 + I + D) else 0
theorem hd_yes {G I D k : Int} (hg : good G I D = true) (h0 : 0 ≤ k) (h1 : k < G) : hdB G I D k = true ∧ hdI G I D k = 1 + k * (1 + I + D) := by
  have h : hdB G I D k = true := by simp [hdB, hg, h0, h1]
  exact ⟨h, if_pos h⟩
set_option maxRecDepth 100000 in
theorem hd_no {G I D k : Int} (h : good G I D = false ∨ k < 0 ∨ G ≤ k) : hdB G I D k = false ∧ hdI G I D k = 0 := by
  have h' : hdB G I D k = false := by
    rcases h with h | h | h
    · simp [hdB, h]
    · simp [hdB, show ¬ (0 ≤ k) by omega]
    · simp [hdB, show ¬ (k < G) by omega]
  exact ⟨h', if_neg (by simp [h'])⟩
set_option maxRecDepth 100000 in
theorem head_any (w : World) (G I D k : Int) : Calls Tryz.prog 30 #[geo G I D, .int .i64 k] w fun e w' => e = .returned (.tuple #[.int .i64 (hdI G I D k), .bool (hdB G I D k)]) ∧ Below w.heap.size w w' := by
  cases hg : good G I D with
  | false =>
    have HG := Hid.mk hg
    have HV := Hid.mk (hd_no (I := I) (k := k) (.inl hg))
    clear hg
    go_enter Tryz.func30, Tryz.ntmps30
    go_wp2_with (go_at_call 11; refine (check_no _ G I D HG.out).mono ?_; rintro e w1 ⟨rfl, hB⟩; obtain ⟨hG1, hB1⟩ := behind hB; obtain ⟨c0, c1, c2⟩ := hG1.g3; have HG1 := Hid.mk hG1; have HB1 := Hid.mk hB1; clear hB hG1 hB1)
    go_ret2
    exact ⟨by rw [HV.out.1, HV.out.2]; rfl, HB1.out⟩
  | true =>
    have hb := good_iff.1 hg
    have HG := Hid.mk hg
    have hw0 : IntKind.i64.wrap (G - 1) = G - 1 := by rw [IntKind.wrap_i64]; omega
    cases j1 : decide (0 ≤ k) with
    | false =>
      have h1 : k < 0 := by have := of_decide_eq_false j1; omega
      have HV := Hid.mk (hd_no (G := G) (I := I) (D := D) (.inr (.inl h1)))
      have j2 : decide (k ≤ G - 1) = true := decide_eq_true (by omega)
      clear hg hb
      go_enter Tryz.func30, Tryz.ntmps30
      go_wp2_with (first | (go_at_call 11; refine (check_yes _ G I D HG.out).mono ?_; rintro e w1 ⟨rfl, hB⟩; obtain ⟨hG1, hB1⟩ := behind hB; obtain ⟨c0, c1, c2⟩ := hG1.g3; have HG1 := Hid.mk hG1; have HB1 := Hid.mk hB1; clear hB hG1 hB1) | (go_at_call 25; refine (within_any _ _ _ _).mono ?_; rintro e w2 ⟨rfl, hw⟩; subst w2; try rw [j1, j2]))
      go_ret2
      exact ⟨by rw [HV.out.1, HV.out.2]; rfl, HB1.out⟩
    | true =>
      have h0 : 0 ≤ k := of_decide_eq_true j1
      by_cases h1 : k < G
      · have HV := Hid.mk (hd_yes hg h0 h1)
        have h8 : k ≤ 8 := by omega
        have j2 : decide (k ≤ G - 1) = true := decide_eq_true (by omega)
        have hm := mul_fits h0 h8 (b := 1 + I + D) (B := 1005) (by omega) (by omega)
        have h3 : IntKind.i64.wrap (k * (1 + I + D)) = k * (1 + I + D) := by rw [IntKind.wrap_i64]; omega
        have h4 : IntKind.i64.wrap (1 + k * (1 + I + D)) = 1 + k * (1 + I + D) := by rw [IntKind.wrap_i64]; omega
        clear hg hb hm
        go_enter Tryz.func30, Tryz.ntmps30
        go_wp2_with (first | (go_at_call 11; refine (check_yes _ G I D HG.out).mono ?_; rintro e w1 ⟨rfl, hB⟩; obtain ⟨hG1, hB1⟩ := behind hB; obtain ⟨c0, c1, c2⟩ := hG1.g3; have HG1 := Hid.mk hG1; have HB1 := Hid.mk hB1; clear hB hG1 hB1) | (go_at_call 25; refine (within_any _ _ _ _).mono ?_; rintro e w2 ⟨rfl, hw⟩; subst w2; try rw [j1, j2]) | (go_at_call 66; refine (headof_any _ G I D k HG.out h0 h8).mono ?_; rintro e w3 ⟨rfl, hB3⟩))
        go_ret2
        exact ⟨by rw [HV.out.1, HV.out.2]; rfl, HB1.out.trans (hB3.mono HB1.out.size)⟩
      · have HV := Hid.mk (hd_no (G := G) (I := I) (D := D) (k := k) (.inr (.inr (by omega))))
        have j2 : decide (k ≤ G - 1) = false := decide_eq_false (by omega)
        have j3 : G ≤ k := by omega
        clear hg hb
        go_enter Tryz.func30, Tryz.ntmps30
        go_wp2_with (first | (go_at_call 11; refine (check_yes _ G I D HG.out).mono ?_; rintro e w1 ⟨rfl, hB⟩; obtain ⟨hG1, hB1⟩ := behind hB; obtain ⟨c0, c1, c2⟩ := hG1.g3; have HG1 := Hid.mk hG1; have HB1 := Hid.mk hB1; clear hB hG1 hB1) | (go_at_call 25; refine (within_any _ _ _ _).mono ?_; rintro e w2 ⟨rfl, hw⟩; subst w2; try rw [j1, j2]))
        go_ret2
        exact ⟨by rw [HV.out.1, HV.out.2]; rfl, HB1.out⟩
set_option maxRecDepth 100000 in
theorem rhead_any (w : World) (G I D k : Int) : Calls Tryz.prog 47 #[geo G I D, .int .i64 k] w fun e w' => e = .returned (.tuple #[.int .i64 (hdI G I D k), .bool (hdB G I D k)]) ∧ Below w.heap.size w w' := by
  cases hg : good G I D with
  | false =>
    have HG := Hid.mk hg
    have HV := Hid.mk (hd_no (I := I) (k := k) (.inl hg))
    clear hg
    go_enter Tryz.func47, Tryz.ntmps47
    go_wp2_with (go_at_call 5; refine (good_is _ G I D false HG.out).mono ?_; rintro e w1 ⟨rfl, hB⟩; obtain ⟨hG1, hB1⟩ := behind hB; obtain ⟨c0, c1, c2⟩ := hG1.g3; have HG1 := Hid.mk hG1; have HB1 := Hid.mk hB1; clear hB hG1 hB1)
    go_ret2
    exact ⟨by rw [HV.out.1, HV.out.2]; rfl, HB1.out⟩
  | true =>
    have hb := good_iff.1 hg
    have HG := Hid.mk hg
    have hw0 : IntKind.i64.wrap (G - 1) = G - 1 := by rw [IntKind.wrap_i64]; omega
    cases j1 : decide (0 ≤ k) with
    | false =>
      have h1 : k < 0 := by have := of_decide_eq_false j1; omega
      have HV := Hid.mk (hd_no (G := G) (I := I) (D := D) (.inr (.inl h1)))
      have j2 : decide (k ≤ G - 1) = true := decide_eq_true (by omega)
      clear hg hb
      go_enter Tryz.func47, Tryz.ntmps47
      go_wp2_with (first | (go_at_call 5; refine (good_is _ G I D true HG.out).mono ?_; rintro e w1 ⟨rfl, hB⟩; obtain ⟨hG1, hB1⟩ := behind hB; obtain ⟨c0, c1, c2⟩ := hG1.g3; have HG1 := Hid.mk hG1; have HB1 := Hid.mk hB1; clear hB hG1 hB1) | (go_at_call 25; refine (within_any _ _ _ _).mono ?_; rintro e w2 ⟨rfl, hw⟩; subst w2; try rw [j1, j2]))
      go_ret2
      exact ⟨by rw [HV.out.1, HV.out.2]; rfl, HB1.out⟩
    | true =>
      have h0 : 0 ≤ k := of_decide_eq_true j1
      by_cases h1 : k < G
      · have HV := Hid.mk (hd_yes hg h0 h1)
        have h8 : k ≤ 8 := by omega
        have j2 : decide (k ≤ G - 1) = true := decide_eq_true (by omega)
        have hm := mul_fits h0 h8 (b := 1 + I + D) (B := 1005) (by omega) (by omega)
        have h3 : IntKind.i64.wrap (k * (1 + I + D)) = k * (1 + I + D) := by rw [IntKind.wrap_i64]; omega
        have h4 : IntKind.i64.wrap (1 + k * (1 + I + D)) = 1 + k * (1 + I + D) := by rw [IntKind.wrap_i64]; omega
        clear hg hb hm
        go_enter Tryz.func47, Tryz.ntmps47
        go_wp2_with (first | (go_at_call 5; refine (good_is _ G I D true HG.out).mono ?_; rintro e w1 ⟨rfl, hB⟩; obtain ⟨hG1, hB1⟩ := behind hB; obtain ⟨c0, c1, c2⟩ := hG1.g3; have HG1 := Hid.mk hG1; have HB1 := Hid.mk hB1; clear hB hG1 hB1) | (go_at_call 25; refine (within_any _ _ _ _).mono ?_; rintro e w2 ⟨rfl, hw⟩; subst w2; try rw [j1, j2]) | (go_at_call 76; refine (per_any _ G I D HG.out).mono ?_; rintro e w3 ⟨rfl, hB3⟩))
        go_ret2
        exact ⟨by rw [HV.out.1, HV.out.2]; rfl, HB1.out.trans (hB3.mono HB1.out.size)⟩
      · have HV := Hid.mk (hd_no (G := G) (I := I) (D := D) (k := k) (.inr (.inr (by omega))))
        have j2 : decide (k ≤ G - 1) = false := decide_eq_false (by omega)
        have j3 : G ≤ k := by omega
        clear hg hb
        go_enter Tryz.func47, Tryz.ntmps47
        go_wp2_with (first | (go_at_call 5; refine (good_is _ G I D true HG.out).mono ?_; rintro e w1 ⟨rfl, hB⟩; obtain ⟨hG1, hB1⟩ := behind hB; obtain ⟨c0, c1, c2⟩ := hG1.g3; have HG1 := Hid.mk hG1; have HB1 := Hid.mk hB1; clear hB hG1 hB1) | (go_at_call 25; refine (within_any _ _ _ _).mono ?_; rintro e w2 ⟨rfl, hw⟩; subst w2; try rw [j1, j2]))
        go_ret2
        exact ⟨by rw [HV.out.1, HV.out.2]; rfl, HB1.out⟩
end Go.Proofs.YtejnmpnioeamhaaGreat
namespace Go.Proofs.YtejnmpnioeamhaaGreat
open Go Go.Proofs Go.RowKit Go.Shelf
set_option maxRecDepth 100000 in
theorem divmod_at {n k D : Int} (h1 : k * D ≤ n) (h2 : n < k * D + D) : n / D = k ∧ n % D = n - k * D := by
  have hD : 0 < D := by omega
  have e : n = (n - k * D) + k * D := by omega
  have h3 : (n - k * D) / D = 0 := Int.ediv_eq_zero_of_lt (by omega) (by omega)
  have h4 : (n - k * D) % D = n - k * D := Int.emod_eq_of_lt (by omega) (by omega)
  constructor
  · rw [e, Int.add_mul_ediv_right _ _ (by omega), h3]; omega
  · rw [e, Int.add_mul_emod_self_right, h4]; omega
set_option maxRecDepth 100000 in
/-- The quotient and the rest, taken apart. -/
theorem divmod_of (n D : Int) (hD : 0 < D) : n = n / D * D + n % D ∧ 0 ≤ n % D ∧ n % D < D := by
  have h := Int.mul_ediv_add_emod n D
  have h2 := Int.emod_nonneg n (show D ≠ 0 by omega)
  have h3 := Int.emod_lt_of_pos n hD
  rw [Int.mul_comm] at h
  exact ⟨h.symm, h2, h3⟩
theorem div_lt {n k D : Int} (hD : 0 < D) (h : n < k * D) : n / D < k := Int.ediv_lt_of_lt_mul hD h
theorem div_nonneg {n D : Int} (hD : 0 < D) (h : 0 ≤ n) : 0 ≤ n / D := Int.ediv_nonneg h (by omega)
theorem step_mul (k D : Int) : (k + 1) * D = k * D + D := by rw [Int.add_mul, Int.one_mul]
def daB (G I D n : Int) : Bool := good G I D && (decide (0 ≤ n) && decide (n < G * D))
def daI (G I D n : Int) : Int := if daB G I D n = true then 1 + n / D * (1 + I + D) + 1 + I + n % D else 0
theorem da_yes {G I D n : Int} (hg : good G I D = true) (h0 : 0 ≤ n) (h1 : n < G * D) : daB G I D n = true ∧ daI G I D n = 1 + n / D * (1 + I + D) + 1 + I + n % D := by
  have h : daB G I D n = true := by simp [daB, hg, h0, h1]
  exact ⟨h, if_pos h⟩
set_option maxRecDepth 100000 in
theorem da_no {G I D n : Int} (h : good G I D = false ∨ n < 0 ∨ G * D ≤ n) : daB G I D n = false ∧ daI G I D n = 0 := by
  have h' : daB G I D n = false := by
    rcases h with h | h | h
    · simp [daB, h]
    · simp [daB, show ¬ (0 ≤ n) by omega]
    · simp [daB, show ¬ (n < G * D) by omega]
  exact ⟨h', if_neg (by simp [h'])⟩
set_option maxRecDepth 100000 in
theorem da_at {G I D n k : Int} (hg : good G I D = true) (hk : 0 ≤ k) (hkG : k < G) (h1 : k * D ≤ n) (h2 : n ≤ k * D + D - 1) : daB G I D n = true ∧ daI G I D n = 1 + k * (1 + I + D) + 1 + I + n - k * D := by
  have hb := good_iff.1 hg
  have m1 : 0 ≤ k * D := Int.mul_nonneg hk (by omega)
  have m2 : (k + 1) * D ≤ G * D := Int.mul_le_mul_of_nonneg_right (by omega) (by omega)
  rw [step_mul] at m2
  obtain ⟨a, b⟩ := da_yes hg (n := n) (by omega) (by omega)
  refine ⟨a, ?_⟩
  obtain ⟨e1, e2⟩ := divmod_at h1 (show n < k * D + D by omega)
  rw [b, e1, e2]
  omega
def doB (G I D b : Int) : Bool := good G I D && (decide (1 ≤ b) && decide (b < 1 + G * (1 + I + D)) && decide (1 + I ≤ (b - 1) % (1 + I + D)))
def doI (G I D b : Int) : Int := if doB G I D b = true then (b - 1) / (1 + I + D) * D + ((b - 1) % (1 + I + D) - 1 - I) else 0
theorem do_iff {G I D b : Int} : doB G I D b = true ↔ good G I D = true ∧ 1 ≤ b ∧ b < 1 + G * (1 + I + D) ∧ 1 + I ≤ (b - 1) % (1 + I + D) := by
  simp [doB, and_assoc]
theorem do_yes {G I D b : Int} (h : doB G I D b = true) : doI G I D b = (b - 1) / (1 + I + D) * D + ((b - 1) % (1 + I + D) - 1 - I) := if_pos h
theorem do_no {G I D b : Int} (h : ¬ doB G I D b = true) : doB G I D b = false ∧ doI G I D b = 0 := ⟨by simpa using h, if_neg h⟩
set_option maxRecDepth 100000 in
theorem do_at {G I D b k : Int} (hg : good G I D = true) (hk : 0 ≤ k) (hkG : k < G) (h1 : 1 + k * (1 + I + D) + 1 + I ≤ b) (h2 : b ≤ 1 + k * (1 + I + D) + 1 + I + D - 1) :
    doB G I D b = true ∧ doI G I D b = k * D + b - (1 + k * (1 + I + D) + 1 + I) := by
  have hb := good_iff.1 hg
  have m1 : 0 ≤ k * (1 + I + D) := Int.mul_nonneg hk (by omega)
  have m2 : (k + 1) * (1 + I + D) ≤ G * (1 + I + D) := Int.mul_le_mul_of_nonneg_right (by omega) (by omega)
  rw [step_mul] at m2
  obtain ⟨e1, e2⟩ := divmod_at (n := b - 1) (k := k) (D := 1 + I + D) (by omega) (by omega)
  have h : doB G I D b = true := do_iff.2 ⟨hg, by omega, by omega, by omega⟩
  refine ⟨h, ?_⟩
  rw [do_yes h, e1, e2]
  omega
set_option maxRecDepth 100000 in
/-- Past group k, and in none before: not in k either. -/
theorem do_step {G I D b k : Int} (hk : doB G I D b = true → k ≤ (b - 1) / (1 + I + D)) (hn : ¬ (1 + k * (1 + I + D) + 1 + I ≤ b ∧ b ≤ 1 + k * (1 + I + D) + 1 + I + D - 1)) :
    doB G I D b = true → k + 1 ≤ (b - 1) / (1 + I + D) := by
  intro h
  have h1 := hk h
  obtain ⟨hg, h2, h3, h4⟩ := do_iff.1 h
  have hb := good_iff.1 hg
  by_cases he : (b - 1) / (1 + I + D) = k
  · exfalso
    obtain ⟨e1, e2, e3⟩ := divmod_of (b - 1) (1 + I + D) (by omega)
    rw [he] at e1
    exact hn (by omega)
  · omega
theorem do_end {G I D b : Int} (hk : doB G I D b = true → G ≤ (b - 1) / (1 + I + D)) : ¬ doB G I D b = true := by
  intro h
  have h1 := hk h
  obtain ⟨hg, h2, h3, h4⟩ := do_iff.1 h
  have hb := good_iff.1 hg
  have := div_lt (n := b - 1) (k := G) (D := 1 + I + D) (by omega) (by omega)
  omega
def grB (G I D n : Int) : Bool := good G I D && (decide (1 ≤ n) && decide (n ≤ G * (I * 16)))
def grI (G I D n : Int) : Int := if grB G I D n = true then (n - 1) / (I * 16) else 0
def grN (G I D n : Int) : Int := if grB G I D n = true then (n - 1) % (I * 16) else 0
def iaI (G I D n : Int) : Int := if grB G I D n = true then 1 + (n - 1) / (I * 16) * (1 + I + D) + 1 + (n - 1) % (I * 16) / 16 else 0
def iaO (G I D n : Int) : Int := if grB G I D n = true then (n - 1) % (I * 16) % 16 * 64 else 0
theorem gr_iff {G I D n : Int} : grB G I D n = true ↔ good G I D = true ∧ 1 ≤ n ∧ n ≤ G * (I * 16) := by
  simp [grB]
theorem gr_yes {G I D n : Int} (h : grB G I D n = true) : grI G I D n = (n - 1) / (I * 16) ∧ grN G I D n = (n - 1) % (I * 16) ∧ iaI G I D n = 1 + (n - 1) / (I * 16) * (1 + I + D) + 1 + (n - 1) % (I * 16) / 16 ∧ iaO G I D n = (n - 1) % (I * 16) % 16 * 64 :=
  ⟨if_pos h, if_pos h, if_pos h, if_pos h⟩
theorem gr_no {G I D n : Int} (h : grB G I D n = false) : grI G I D n = 0 ∧ grN G I D n = 0 ∧ iaI G I D n = 0 ∧ iaO G I D n = 0 :=
  ⟨if_neg (by simp [h]), if_neg (by simp [h]), if_neg (by simp [h]), if_neg (by simp [h])⟩
theorem gr_not {G I D n : Int} (h : good G I D = false ∨ n < 1 ∨ G * (I * 16) < n) : grB G I D n = false := by
  rcases h with h | h | h
  · simp [grB, h]
  · simp [grB, show ¬ (1 ≤ n) by omega]
  · simp [grB, show ¬ (n ≤ G * (I * 16)) by omega]
set_option maxRecDepth 100000 in
theorem gr_at {G I D n k : Int} (hg : good G I D = true) (hk : 0 ≤ k) (hkG : k < G) (h1 : 1 + k * (I * 16) ≤ n) (h2 : n ≤ 1 + k * (I * 16) + I * 16 - 1) :
    grB G I D n = true ∧ grI G I D n = k ∧ grN G I D n = n - (1 + k * (I * 16)) := by
  have hb := good_iff.1 hg
  have m1 : 0 ≤ k * (I * 16) := Int.mul_nonneg hk (by omega)
  have m2 : (k + 1) * (I * 16) ≤ G * (I * 16) := Int.mul_le_mul_of_nonneg_right (by omega) (by omega)
  rw [step_mul] at m2
  obtain ⟨e1, e2⟩ := divmod_at (n := n - 1) (k := k) (D := I * 16) (by omega) (by omega)
  have h : grB G I D n = true := gr_iff.2 ⟨hg, by omega, by omega⟩
  obtain ⟨a, b, _, _⟩ := gr_yes h
  exact ⟨h, by rw [a, e1], by rw [b, e2]; omega⟩
set_option maxRecDepth 100000 in
/-- An inode's group and its number there, in their bounds. -/
theorem gr_bounds {G I D n : Int} (h : grB G I D n = true) : good G I D = true ∧ 0 ≤ (n - 1) / (I * 16) ∧ (n - 1) / (I * 16) < G ∧ 0 ≤ (n - 1) % (I * 16) ∧ (n - 1) % (I * 16) < I * 16 ∧ n - 1 = (n - 1) / (I * 16) * (I * 16) + (n - 1) % (I * 16) := by
  obtain ⟨hg, h1, h2⟩ := gr_iff.1 h
  have hb := good_iff.1 hg
  obtain ⟨e1, e2, e3⟩ := divmod_of (n - 1) (I * 16) (by omega)
  exact ⟨hg, div_nonneg (by omega) (by omega), div_lt (by omega) (by omega), e2, e3, e1⟩
end Go.Proofs.YtejnmpnioeamhaaGreat
namespace Go.Proofs.YtejnmpnioeamhaaGreat
open Go Go.Proofs Go.RowKit Go.Shelf
theorem no_within {P Q : Prop} [Decidable P] [Decidable Q] (h : ¬ (P ∧ Q)) : (decide P && decide Q) = false := by
  rw [← Bool.decide_and]; exact decide_eq_false h
set_option maxRecDepth 100000 in
set_option maxHeartbeats 4000000 in
theorem wdata_any (w : World) (G I D n : Int) : Calls Tryz.prog 31 #[geo G I D, .int .i64 n] w fun e w' => e = .returned (.tuple #[.int .i64 (daI G I D n), .bool (daB G I D n)]) ∧ Below w.heap.size w w' := by
  cases hg : good G I D with
  | false =>
    have HG := Hid.mk hg
    have HV := Hid.mk (da_no (I := I) (n := n) (.inl hg))
    clear hg
    go_enter Tryz.func31, Tryz.ntmps31
    go_wp2_with (go_at_call 11; refine (check_no _ G I D HG.out).mono ?_; rintro e w1 ⟨rfl, hB⟩; obtain ⟨hG1, hB1⟩ := behind hB; obtain ⟨c0, c1, c2⟩ := hG1.g3; have HG1 := Hid.mk hG1; have HB1 := Hid.mk hB1; clear hB hG1 hB1)
    go_ret2
    exact ⟨by rw [HV.out.1, HV.out.2]; rfl, HB1.out⟩
  | true =>
    have hb := good_iff.1 hg
    have HG := Hid.mk hg
    have HBD := Hid.mk hb
    clear hg hb
    go_enter Tryz.func31, Tryz.ntmps31
    go_wp2_with (go_at_call 11; refine (check_yes _ G I D HG.out).mono ?_; rintro e w1 ⟨rfl, hB⟩; obtain ⟨hG1, hB1⟩ := behind hB; obtain ⟨c0, c1, c2⟩ := hG1.g3; have HG1 := Hid.mk hG1; have HB1 := Hid.mk hB1; clear hB hG1 hB1)
    go_loop [13] (fun i => ∃ k : Int, i = .int .i64 k ∧ 0 ≤ k ∧ k ≤ G ∧ (n < 0 ∨ k * D ≤ n)) (fun i => (8 - intOf i).toNat)
    case atStart => exact ⟨0, rfl, by omega, by have := HBD.out; omega, by omega⟩
    case round =>
      obtain ⟨k, rfl, hk0, hkG, hkn⟩ := hrel
      by_cases hk : k < G
      · have hb := HBD.out
        have m1 := mul_fits (a := k) (A := 8) (b := D) (B := 1000) (by omega) (by omega) (by omega) (by omega)
        have m2 := mul_fits (a := k) (A := 8) (b := 1 + I + D) (B := 1005) (by omega) (by omega) (by omega) (by omega)
        have s1 := step_mul k D
        have w1' : IntKind.i64.wrap (k * D) = k * D := by rw [IntKind.wrap_i64]; omega
        have w2' : IntKind.i64.wrap (k * D + D) = k * D + D := by rw [IntKind.wrap_i64]; omega
        have w3' : IntKind.i64.wrap (k * D + D - 1) = k * D + D - 1 := by rw [IntKind.wrap_i64]; omega
        have w4' : IntKind.i64.wrap (k + 1) = k + 1 := by rw [IntKind.wrap_i64]; omega
        by_cases hf : k * D ≤ n ∧ n ≤ k * D + D - 1
        · have HV := Hid.mk (da_at HG.out hk0 hk hf.1 hf.2)
          have j : (decide (k * D ≤ n) && decide (n ≤ k * D + D - 1)) = true := by simp [hf]
          have H31 := Hid.mk (fun w => dataof_any w G I D k HG.out hk0 (by omega))
          obtain ⟨m, em⟩ : ∃ m, 1 + k * (1 + I + D) + 1 + I = m := ⟨_, rfl⟩
          have w5' : IntKind.i64.wrap (m + n) = m + n := by rw [IntKind.wrap_i64]; omega
          have w6' : IntKind.i64.wrap (m + n - k * D) = m + n - k * D := by rw [IntKind.wrap_i64]; omega
          rw [em] at H31 HV
          clear hb m1 m2 s1 em hf hkn
          go_wp2_with (first | (go_at_call 25; refine (within_any _ _ _ _).mono ?_; rintro e w2 ⟨rfl, hw⟩; subst w2; rw [j]) | (go_at_call 67; refine (H31.out _).mono ?_; rintro e w3 ⟨rfl, hB3⟩))
          go_ret2
          exact ⟨by rw [HV.out.1, HV.out.2]; rfl, HB1.out.trans (hB3.mono HB1.out.size)⟩
        · have j := no_within hf
          have HN : Hid (n < 0 ∨ (k + 1) * D ≤ n) := Hid.mk (by omega)
          have HM : Hid (0 ≤ k + 1 ∧ k + 1 ≤ G ∧ k < 8) := Hid.mk (by omega)
          clear hb m1 m2 s1 hf hkn
          go_wp2_with (go_at_call 25; refine (within_any _ _ _ _).mono ?_; rintro e w2 ⟨rfl, hw⟩; subst w2; rw [j])
          go_round
          case rel => exact ⟨k + 1, rfl, HM.out.1, HM.out.2.1, HN.out⟩
          case measure => (have := HM.out; simp [intOf]; omega)
      · obtain rfl : k = G := by omega
        have HV := Hid.mk (da_no (G := k) (I := I) (D := D) (n := n) (.inr (by omega)))
        clear hkn
        go_wp2
        go_ret2
        exact ⟨by rw [HV.out.1, HV.out.2]; rfl, HB1.out⟩
/-- A call behind which the geometry still lies. -/
theorem GAt.then {b : Nat} {G I D : Int} {w0 W W' : World} (h : GAt b G I D W) (hB : Below w0.heap.size w0 W) (hB' : Below W.heap.size W W') : GAt b G I D W' ∧ Below w0.heap.size w0 W' :=
  ⟨h.below hB' h.lt, hB.trans (hB'.mono hB.size)⟩
set_option maxRecDepth 100000 in
set_option maxHeartbeats 4000000 in
theorem group_any (w : World) (G I D n : Int) : Calls Tryz.prog 72 #[geo G I D, .int .i64 n] w fun e w' => e = .returned (.tuple #[.int .i64 (grI G I D n), .int .i64 (grN G I D n), .bool (grB G I D n)]) ∧ Below w.heap.size w w' := by
  cases hg : good G I D with
  | false =>
    have HG := Hid.mk hg
    have hno := gr_not (I := I) (n := n) (.inl hg)
    have HV := Hid.mk (And.intro hno (gr_no hno))
    clear hg hno
    go_enter Tryz.func72, Tryz.ntmps72
    go_wp2_with (go_at_call 11; refine (check_no _ G I D HG.out).mono ?_; rintro e w1 ⟨rfl, hB⟩; obtain ⟨hG1, hB1⟩ := behind hB; obtain ⟨c0, c1, c2⟩ := hG1.g3; have HG1 := Hid.mk hG1; have HB1 := Hid.mk hB1; clear hB hG1 hB1)
    go_ret3
    exact ⟨by rw [HV.out.1, HV.out.2.1, HV.out.2.2.1]; rfl, HB1.out⟩
  | true =>
    have hb := good_iff.1 hg
    have HG := Hid.mk hg
    have HBD := Hid.mk hb
    clear hg hb
    go_enter Tryz.func72, Tryz.ntmps72
    go_wp2_with (go_at_call 11; refine (check_yes _ G I D HG.out).mono ?_; rintro e w1 ⟨rfl, hB⟩; obtain ⟨hG1, hB1⟩ := behind hB; obtain ⟨c0, c1, c2⟩ := hG1.g3; have HG1 := Hid.mk hG1; have HB1 := Hid.mk hB1; clear hB hG1 hB1)
    go_loopw [14] (fun i wr => ∃ k : Int, i = .int .i64 k ∧ 0 ≤ k ∧ k ≤ G ∧ (n < 1 ∨ 1 + k * (I * 16) ≤ n) ∧ GAt w.heap.size G I D wr ∧ Below w.heap.size w wr) (fun i _ => (8 - intOf i).toNat)
    case atStart => exact ⟨0, rfl, by omega, by have := HBD.out; omega, by omega, HG1.out, HB1.out⟩
    case round =>
      obtain ⟨k, rfl, hk0, hkG, hkn, hGr, hBr⟩ := hrel
      clear c0 c1 c2
      obtain ⟨c0, c1, c2⟩ := hGr.g3
      by_cases hk : k < G
      · have hb := HBD.out
        have m1 := mul_fits (a := k) (A := 8) (b := I * 16) (B := 64) (by omega) (by omega) (by omega) (by omega)
        have s1 := step_mul k (I * 16)
        have H29 := Hid.mk (fun w => ginodes_any w G I D HG.out)
        have HGr := Hid.mk hGr
        have HBr := Hid.mk hBr
        by_cases hf : 1 + k * (I * 16) ≤ n ∧ n ≤ 1 + k * (I * 16) + I * 16 - 1
        · have HV := Hid.mk (gr_at HG.out hk0 hk hf.1 hf.2)
          obtain ⟨q, eq⟩ : ∃ q, I * 16 = q := ⟨_, rfl⟩
          rw [eq] at H29 HV hf m1 s1
          obtain ⟨m, em⟩ : ∃ m, k * q = m := ⟨_, rfl⟩
          rw [em] at HV hf m1 s1
          have w1' : IntKind.i64.wrap (k * q) = m := by rw [IntKind.wrap_i64]; omega
          have w2' : IntKind.i64.wrap (1 + m) = 1 + m := by rw [IntKind.wrap_i64]; omega
          have w3' : IntKind.i64.wrap (1 + m + q) = 1 + m + q := by rw [IntKind.wrap_i64]; omega
          have w4' : IntKind.i64.wrap (1 + m + q - 1) = 1 + m + q - 1 := by rw [IntKind.wrap_i64]; omega
          have w5' : IntKind.i64.wrap (k + 1) = k + 1 := by rw [IntKind.wrap_i64]; omega
          have w6' : IntKind.i64.wrap (n - (1 + m)) = n - (1 + m) := by rw [IntKind.wrap_i64]; omega
          have j : (decide (1 + m ≤ n) && decide (n ≤ 1 + m + q - 1)) = true := by simp [hf]
          clear hb m1 s1 em eq hf hkn hGr hBr
          go_wp2_with (first | (go_at_call 92; refine (H29.out _).mono ?_; rintro e w3 ⟨rfl, hB3⟩; obtain ⟨hG3, hB3'⟩ := HGr.out.then HBr.out hB3; clear HGr HBr c0 c1 c2; obtain ⟨c0, c1, c2⟩ := hG3.g3; have HGr := Hid.mk hG3; have HBr := Hid.mk hB3'; clear hB3 hG3 hB3') | (go_at_call 25; refine (within_any _ _ _ _).mono ?_; rintro e w2 ⟨rfl, hw⟩; subst w2; rw [j]))
          go_ret3
          exact ⟨by rw [HV.out.1, HV.out.2.1, HV.out.2.2]; rfl, HBr.out⟩
        · have HN : Hid (n < 1 ∨ 1 + (k + 1) * (I * 16) ≤ n) := Hid.mk (by omega)
          have HM : Hid (0 ≤ k + 1 ∧ k + 1 ≤ G ∧ k < 8) := Hid.mk (by omega)
          obtain ⟨q, eq⟩ : ∃ q, I * 16 = q := ⟨_, rfl⟩
          rw [eq] at H29 hf m1 s1
          obtain ⟨m, em⟩ : ∃ m, k * q = m := ⟨_, rfl⟩
          rw [em] at hf m1 s1
          have w1' : IntKind.i64.wrap (k * q) = m := by rw [IntKind.wrap_i64]; omega
          have w2' : IntKind.i64.wrap (1 + m) = 1 + m := by rw [IntKind.wrap_i64]; omega
          have w3' : IntKind.i64.wrap (1 + m + q) = 1 + m + q := by rw [IntKind.wrap_i64]; omega
          have w4' : IntKind.i64.wrap (1 + m + q - 1) = 1 + m + q - 1 := by rw [IntKind.wrap_i64]; omega
          have w5' : IntKind.i64.wrap (k + 1) = k + 1 := by rw [IntKind.wrap_i64]; omega
          have j := no_within hf
          clear hb m1 s1 em eq hf hkn hGr hBr
          go_wp2_with (first | (go_at_call 92; refine (H29.out _).mono ?_; rintro e w3 ⟨rfl, hB3⟩; obtain ⟨hG3, hB3'⟩ := HGr.out.then HBr.out hB3; clear HGr HBr c0 c1 c2; obtain ⟨c0, c1, c2⟩ := hG3.g3; have HGr := Hid.mk hG3; have HBr := Hid.mk hB3'; clear hB3 hG3 hB3') | (go_at_call 25; refine (within_any _ _ _ _).mono ?_; rintro e w2 ⟨rfl, hw⟩; subst w2; rw [j]))
          go_roundw
          case rel => exact ⟨k + 1, rfl, HM.out.1, HM.out.2.1, HN.out, HGr.out, HBr.out⟩
          case measure => (have := HM.out; simp [intOf]; omega)
      · obtain rfl : k = G := by omega
        have hno := gr_not (G := k) (I := I) (D := D) (n := n) (.inr (by omega))
        have HV := Hid.mk (And.intro hno (gr_no hno))
        have HBr := Hid.mk hBr
        clear hkn hGr hBr hno
        go_wp2
        go_ret3
        exact ⟨by rw [HV.out.1, HV.out.2.1, HV.out.2.2.1]; rfl, HBr.out⟩
set_option maxRecDepth 100000 in
theorem inodeat_any (w : World) (G I D n : Int) : Calls Tryz.prog 33 #[geo G I D, .int .i64 n] w fun e w' => e = .returned (.tuple #[.int .i64 (iaI G I D n), .int .i64 (iaO G I D n), .bool (grB G I D n)]) ∧ Below w.heap.size w w' := by
  have HGR := Hid.mk (fun w => group_any w G I D n)
  cases hb : grB G I D n with
  | false =>
    rw [hb] at HGR
    have HV := Hid.mk (gr_no hb)
    clear hb
    go_enter Tryz.func33, Tryz.ntmps33
    go_wp2_with (go_at_call 72; refine (HGR.out _).mono ?_; rintro e w1 ⟨rfl, hB⟩; obtain ⟨hG1, hB1⟩ := behind hB; have HB1 := Hid.mk hB1; clear hB hG1 hB1)
    go_ret3
    exact ⟨by rw [HV.out.2.2.1, HV.out.2.2.2]; rfl, HB1.out⟩
  | true =>
    rw [hb] at HGR
    have HV := Hid.mk (gr_yes hb)
    obtain ⟨hg, b1, b2, b3, b4, _⟩ := gr_bounds hb
    have hgb := good_iff.1 hg
    rw [HV.out.1, HV.out.2.1] at HGR
    obtain ⟨k, ek⟩ : ∃ k, (n - 1) / (I * 16) = k := ⟨_, rfl⟩
    obtain ⟨r, er⟩ : ∃ r, (n - 1) % (I * 16) = r := ⟨_, rfl⟩
    rw [ek] at HGR b1 b2 HV
    rw [er] at HGR b3 b4 HV
    have m2 := mul_fits (a := k) (A := 8) (b := 1 + I + D) (B := 1005) (by omega) (by omega) (by omega) (by omega)
    have H30 := Hid.mk (fun w => headof_any w G I D k hg b1 (by omega))
    obtain ⟨m, em⟩ : ∃ m, 1 + k * (1 + I + D) = m := ⟨_, rfl⟩
    rw [em] at H30 HV
    have t1 : r.tdiv 16 = r / 16 := Int.tdiv_eq_ediv_of_nonneg b3
    have t2 : r.tmod 16 = r % 16 := Int.tmod_eq_emod_of_nonneg b3
    have w1' : IntKind.i64.wrap (m + 1) = m + 1 := by rw [IntKind.wrap_i64]; omega
    have w2' : IntKind.i64.wrap (m + 1 + r / 16) = m + 1 + r / 16 := by rw [IntKind.wrap_i64]; omega
    have w3' : IntKind.i64.wrap (r / 16) = r / 16 := by rw [IntKind.wrap_i64]; omega
    have w4' : IntKind.i64.wrap (r % 16) = r % 16 := by rw [IntKind.wrap_i64]; omega
    have w5' : IntKind.i64.wrap (r % 16 * 64) = r % 16 * 64 := by rw [IntKind.wrap_i64]; omega
    clear hb hg hgb ek er b1 b2 b3 b4 m2 em
    go_enter Tryz.func33, Tryz.ntmps33
    go_wp2_with (first | (go_at_call 72; refine (HGR.out _).mono ?_; rintro e w1 ⟨rfl, hB⟩; obtain ⟨hG1, hB1⟩ := behind hB; obtain ⟨c0, c1, c2⟩ := hG1.g3; have HB1 := Hid.mk hB1; clear hB hG1 hB1) | (go_at_call 66; refine (H30.out _).mono ?_; rintro e w3 ⟨rfl, hB3⟩))
    go_ret3
    exact ⟨by rw [HV.out.2.2.1, HV.out.2.2.2]; rfl, HB1.out.trans (hB3.mono HB1.out.size)⟩
end Go.Proofs.YtejnmpnioeamhaaGreat
namespace Go.Proofs.YtejnmpnioeamhaaGreat
open Go Go.Proofs Go.RowKit Go.Shelf
theorem _root_.Go.RowKit.Below.drewN {B : Nat} {a w : World} (h : Below B a w) (m : Nat) : Below B a (w.drewN m) := ⟨h.os, h.tape, h.output, h.size, h.block⟩
theorem gr_ino {G I D n : Int} : grB G I D n = true ↔ 1 ≤ n ∧ n ≤ inoI G I D := by
  rw [gr_iff]
  cases hg : good G I D with
  | true => rw [ino_yes hg]; simp
  | false => rw [ino_no hg]; simp; try omega
theorem da_blk {G I D n : Int} : daB G I D n = true ↔ 0 ≤ n ∧ n < blkI G I D := by
  cases hg : good G I D with
  | true => rw [blk_yes hg]; simp [daB, hg]
  | false => rw [blk_no hg]; simp [daB, hg]; try omega
set_option maxRecDepth 100000 in
set_option maxHeartbeats 4000000 in
theorem rgroup_any (w : World) (G I D n : Int) : Calls Tryz.prog 53 #[geo G I D, .int .i64 n] w fun e w' => e = .returned (.tuple #[.int .i64 (grI G I D n), .int .i64 (grN G I D n), .bool (grB G I D n)]) ∧ Below w.heap.size w w' := by
  have HI := Hid.mk (fun w => rinodes_any w G I D)
  have hgr := gr_ino (G := G) (I := I) (D := D) (n := n)
  have HQ : Hid (∀ q, inoI G I D = q → 0 ≤ n → True) := Hid.mk (fun _ _ _ => trivial)
  obtain ⟨q, eq⟩ : ∃ q, inoI G I D = q := ⟨_, rfl⟩
  rw [eq] at HI hgr
  clear HQ eq
  cases hb : grB G I D n with
  | false =>
    have HV := Hid.mk (gr_no hb)
    rw [hb] at hgr
    by_cases h1 : n < 1
    · clear hb hgr
      go_enter Tryz.func53, Tryz.ntmps53
      go_wp2
      go_ret3
      exact ⟨by rw [HV.out.1, HV.out.2.1]; rfl, (Below.refl _ w).alloc (Nat.le_refl _) _⟩
    · have h2 : q < n := by simp at hgr; omega
      clear hb hgr
      go_enter Tryz.func53, Tryz.ntmps53
      go_wp2_with (go_at_call 37; refine (HI.out _).mono ?_; rintro e w1 ⟨rfl, hB⟩; obtain ⟨hG1, hB1⟩ := behind hB; obtain ⟨c0, c1, c2⟩ := hG1.g3; have HG1 := Hid.mk hG1; have HB1 := Hid.mk hB1; clear hB hG1 hB1)
      go_ret3
      exact ⟨by rw [HV.out.1, HV.out.2.1]; rfl, HB1.out⟩
  | true =>
    have HV := Hid.mk (gr_yes hb)
    obtain ⟨hg, b1, b2, b3, b4, -⟩ := gr_bounds hb
    have hgb := good_iff.1 hg
    have hn := gr_iff.1 hb
    rw [hb] at hgr
    simp at hgr
    have h1 : ¬ n < 1 := by omega
    have h2 : ¬ q < n := by omega
    have m3 := mul_fits (a := G) (A := 8) (b := I * 16) (B := 64) (by omega) (by omega) (by omega) (by omega)
    have t1 : (n - 1).tdiv (I * 16) = (n - 1) / (I * 16) := Int.tdiv_eq_ediv_of_nonneg (by omega)
    have t2 : (n - 1).tmod (I * 16) = (n - 1) % (I * 16) := Int.tmod_eq_emod_of_nonneg (by omega)
    have w1' : IntKind.i64.wrap (n - 1) = n - 1 := by rw [IntKind.wrap_i64]; omega
    have w2' : IntKind.i64.wrap (16 * I) = I * 16 := by rw [IntKind.wrap_i64]; omega
    have z1 : ¬ I * 16 = 0 := by omega
    obtain ⟨k, ek⟩ : ∃ k, (n - 1) / (I * 16) = k := ⟨_, rfl⟩
    obtain ⟨r, er⟩ : ∃ r, (n - 1) % (I * 16) = r := ⟨_, rfl⟩
    rw [ek] at t1 HV b1 b2
    rw [er] at t2 HV b3 b4
    have w3' : IntKind.i64.wrap k = k := by rw [IntKind.wrap_i64]; omega
    have w4' : IntKind.i64.wrap r = r := by rw [IntKind.wrap_i64]; omega
    obtain ⟨P, eP⟩ : ∃ P, I * 16 = P := ⟨_, rfl⟩
    rw [eP] at w2' z1 t1 t2
    clear ek er eP
    clear hb hg hgb b1 b2 b3 b4 hgr hn m3
    go_enter Tryz.func53, Tryz.ntmps53
    go_wp2_with (go_at_call 37; refine (HI.out _).mono ?_; rintro e w1 ⟨rfl, hB⟩; obtain ⟨hG1, hB1⟩ := behind hB; obtain ⟨c0, c1, c2⟩ := hG1.g3; have HG1 := Hid.mk hG1; have HB1 := Hid.mk hB1; clear hB hG1 hB1)
    go_quiet (fail)
    go_wp2
    go_ret3
    exact ⟨by rw [HV.out.1, HV.out.2.1]; rfl, HB1.out.drewN _⟩
set_option maxRecDepth 100000 in
theorem rinodeat_any (w : World) (G I D n : Int) : Calls Tryz.prog 39 #[geo G I D, .int .i64 n] w fun e w' => e = .returned (.tuple #[.int .i64 (iaI G I D n), .int .i64 (iaO G I D n), .bool (grB G I D n)]) ∧ Below w.heap.size w w' := by
  have HGR := Hid.mk (fun w => rgroup_any w G I D n)
  cases hb : grB G I D n with
  | false =>
    rw [hb] at HGR
    have HV := Hid.mk (gr_no hb)
    clear hb
    go_enter Tryz.func39, Tryz.ntmps39
    go_wp2_with (go_at_call 53; refine (HGR.out _).mono ?_; rintro e w1 ⟨rfl, hB⟩; obtain ⟨hG1, hB1⟩ := behind hB; obtain ⟨c0, c1, c2⟩ := hG1.g3; have HG1 := Hid.mk hG1; have HB1 := Hid.mk hB1; clear hB hG1 hB1)
    go_ret3
    exact ⟨by rw [HV.out.2.2.1, HV.out.2.2.2]; rfl, HB1.out⟩
  | true =>
    rw [hb] at HGR
    have HV := Hid.mk (gr_yes hb)
    obtain ⟨hg, b1, b2, b3, b4, -⟩ := gr_bounds hb
    have hgb := good_iff.1 hg
    rw [HV.out.1, HV.out.2.1] at HGR
    obtain ⟨k, ek⟩ : ∃ k, (n - 1) / (I * 16) = k := ⟨_, rfl⟩
    obtain ⟨r, er⟩ : ∃ r, (n - 1) % (I * 16) = r := ⟨_, rfl⟩
    rw [ek] at HGR b1 b2 HV
    rw [er] at HGR b3 b4 HV
    have m2 := mul_fits (a := k) (A := 8) (b := 1 + I + D) (B := 1005) (by omega) (by omega) (by omega) (by omega)
    have H17 := Hid.mk (fun w => rhead_any w G I D k)
    obtain ⟨e1, e2⟩ := hd_yes hg b1 b2
    rw [e1, e2] at H17
    obtain ⟨m, em⟩ : ∃ m, 1 + k * (1 + I + D) = m := ⟨_, rfl⟩
    rw [em] at H17 HV
    have t1 : r.tdiv 16 = r / 16 := Int.tdiv_eq_ediv_of_nonneg b3
    have t2 : r.tmod 16 = r % 16 := Int.tmod_eq_emod_of_nonneg b3
    have w1' : IntKind.i64.wrap (m + 1) = m + 1 := by rw [IntKind.wrap_i64]; omega
    have w2' : IntKind.i64.wrap (m + 1 + r / 16) = m + 1 + r / 16 := by rw [IntKind.wrap_i64]; omega
    have w3' : IntKind.i64.wrap (r / 16) = r / 16 := by rw [IntKind.wrap_i64]; omega
    have w4' : IntKind.i64.wrap (r % 16) = r % 16 := by rw [IntKind.wrap_i64]; omega
    have w5' : IntKind.i64.wrap (r % 16 * 64) = r % 16 * 64 := by rw [IntKind.wrap_i64]; omega
    clear hb hg hgb ek er b1 b2 b3 b4 m2 em e1 e2
    go_enter Tryz.func39, Tryz.ntmps39
    go_wp2_with (first | (go_at_call 53; refine (HGR.out _).mono ?_; rintro e w1 ⟨rfl, hB⟩; obtain ⟨hG1, hB1⟩ := behind hB; obtain ⟨c0, c1, c2⟩ := hG1.g3; have HG1 := Hid.mk hG1; have HB1 := Hid.mk hB1; clear hB hG1 hB1) | (go_at_call 47; refine (H17.out _).mono ?_; rintro e w3 ⟨rfl, hB3⟩))
    go_ret3
    exact ⟨by rw [HV.out.2.2.1, HV.out.2.2.2]; rfl, HB1.out.trans (hB3.mono HB1.out.size)⟩
set_option maxRecDepth 100000 in
set_option maxHeartbeats 4000000 in
theorem rdata_any (w : World) (G I D n : Int) : Calls Tryz.prog 81 #[geo G I D, .int .i64 n] w fun e w' => e = .returned (.tuple #[.int .i64 (daI G I D n), .bool (daB G I D n)]) ∧ Below w.heap.size w w' := by
  have HI := Hid.mk (fun w => rblocks_any w G I D)
  have hda := da_blk (G := G) (I := I) (D := D) (n := n)
  obtain ⟨q, eq⟩ : ∃ q, blkI G I D = q := ⟨_, rfl⟩
  rw [eq] at HI hda
  clear eq
  cases hb : daB G I D n with
  | false =>
    have HV : Hid (daI G I D n = 0) := Hid.mk (if_neg (by simp [hb]))
    rw [hb] at hda
    by_cases h1 : n < 0
    · clear hb hda
      go_enter Tryz.func81, Tryz.ntmps81
      go_wp2
      go_ret2
      exact ⟨by rw [HV.out]; rfl, (Below.refl _ w).alloc (Nat.le_refl _) _⟩
    · have h2 : q ≤ n := by simp at hda; omega
      clear hb hda
      go_enter Tryz.func81, Tryz.ntmps81
      go_wp2_with (go_at_call 45; refine (HI.out _).mono ?_; rintro e w1 ⟨rfl, hB⟩; obtain ⟨hG1, hB1⟩ := behind hB; obtain ⟨c0, c1, c2⟩ := hG1.g3; have HG1 := Hid.mk hG1; have HB1 := Hid.mk hB1; clear hB hG1 hB1)
      go_ret2
      exact ⟨by rw [HV.out]; rfl, HB1.out⟩
  | true =>
    have HV : Hid (daI G I D n = 1 + n / D * (1 + I + D) + 1 + I + n % D) := Hid.mk (if_pos hb)
    have hb2 := hb
    simp [daB] at hb2
    obtain ⟨hg, hn0, hnG⟩ := hb2
    have hgb := good_iff.1 hg
    rw [hb] at hda
    simp at hda
    have h1 : ¬ n < 0 := by omega
    have h2 : ¬ q ≤ n := by omega
    have t1 : n.tdiv D = n / D := Int.tdiv_eq_ediv_of_nonneg (by omega)
    have t2 : n.tmod D = n % D := Int.tmod_eq_emod_of_nonneg (by omega)
    obtain ⟨e1, e2, e3⟩ := divmod_of n D (by omega)
    have d1 : 0 ≤ n / D := div_nonneg (by omega) (by omega)
    have d2 : n / D < G := div_lt (by omega) hnG
    obtain ⟨k, ek⟩ : ∃ k, n / D = k := ⟨_, rfl⟩
    obtain ⟨r, er⟩ : ∃ r, n % D = r := ⟨_, rfl⟩
    rw [ek] at t1 HV d1 d2
    rw [er] at t2 HV e2 e3
    have m2 := mul_fits (a := k) (A := 8) (b := 1 + I + D) (B := 1005) (by omega) (by omega) (by omega) (by omega)
    have H17 := Hid.mk (fun w => rhead_any w G I D k)
    obtain ⟨f1, f2⟩ := hd_yes hg d1 d2
    rw [f1, f2] at H17
    obtain ⟨m, em⟩ : ∃ m, 1 + k * (1 + I + D) = m := ⟨_, rfl⟩
    rw [em] at H17 HV
    have w0' : IntKind.i64.wrap k = k := by rw [IntKind.wrap_i64]; omega
    have w1' : IntKind.i64.wrap (m + 1) = m + 1 := by rw [IntKind.wrap_i64]; omega
    have w2' : IntKind.i64.wrap (m + 1 + I) = m + 1 + I := by rw [IntKind.wrap_i64]; omega
    have w3' : IntKind.i64.wrap (m + 1 + I + r) = m + 1 + I + r := by rw [IntKind.wrap_i64]; omega
    have w4' : IntKind.i64.wrap r = r := by rw [IntKind.wrap_i64]; omega
    have z1 : ¬ D = 0 := by omega
    clear hb hg hgb ek er hn0 hnG hda e1 e2 e3 d1 d2 m2 em f1 f2
    go_enter Tryz.func81, Tryz.ntmps81
    go_wp2_with (go_at_call 45; refine (HI.out _).mono ?_; rintro e w1 ⟨rfl, hB⟩; obtain ⟨hG1, hB1⟩ := behind hB; obtain ⟨c0, c1, c2⟩ := hG1.g3; have HG1 := Hid.mk hG1; have HB1 := Hid.mk hB1; clear hB hG1 hB1)
    have HK : Hid (∀ W', Below w1.heap.size w1.drew W' → GAt w.heap.size G I D W') := Hid.mk (fun W' hB => GAt.below (W := w1.drew) HG1.out hB HG1.out.lt)
    clear c0 c1 c2
    refine wp_region_held_drew (S := G3 w.heap.size G I D) (by kernel_rfl) (HK.out _ (Below.refl _ _)).g3 (fun hH => ?_)
    change wpAnyH Tryz.prog Region.Mode.any _ _ _ 11 _ _ _
    refine takeH 0 17 (geo G I D) rfl (by kernel_rfl) (by kernel_rfl) (by kernel_rfl) (by kernel_rfl) (fun _ _ _ h => h) (by kernel_rfl) (fun w hw => by (try dsimp only at hw); go_simp) hH ?_
    simp only [List.setIfInBounds_toArray, List.set_cons_zero, List.set_cons_succ]
    refine takeH 1 18 (.int .i64 (n)) rfl (by kernel_rfl) (by kernel_rfl) (by kernel_rfl) (by kernel_rfl) (fun _ _ _ h => h) (by kernel_rfl) (fun w hw => by kernel_rfl) hH ?_
    simp only [List.setIfInBounds_toArray, List.set_cons_zero, List.set_cons_succ]
    refine takeH 2 19 (.pointer (some ⟨w.heap.size, 2, none⟩)) rfl (by kernel_rfl) (by kernel_rfl) (by kernel_rfl) (by kernel_rfl) (fun _ _ _ h => h) (by kernel_rfl) (fun w hw => by (try dsimp only at hw); go_simp) hH ?_
    simp only [List.setIfInBounds_toArray, List.set_cons_zero, List.set_cons_succ]
    refine takeH 3 20 (.int .i64 (D)) rfl (by kernel_rfl) (by kernel_rfl) (by kernel_rfl) (by kernel_rfl) (fun _ _ _ h => h) (by kernel_rfl) (fun w hw => by (try dsimp only at hw); go_simp) hH ?_
    simp only [List.setIfInBounds_toArray, List.set_cons_zero, List.set_cons_succ]
    refine takeH 4 21 (.int .i64 (k)) rfl (by kernel_rfl) (by kernel_rfl) (by kernel_rfl) (by kernel_rfl) (fun _ _ _ h => h) (by kernel_rfl) (fun w hw => by (try dsimp only at hw); go_simp) hH ?_
    simp only [List.setIfInBounds_toArray, List.set_cons_zero, List.set_cons_succ]
    refine stepH_call 5 22 rfl (by kernel_rfl) (by kernel_rfl) (by kernel_rfl) 47 #[.tmp 17, .tmp 21] #[23, 3] (by kernel_rfl) (enters_of Tryz.func47 (by kernel_rfl) rfl) #[geo G I D, .int .i64 (k)] (by kernel_rfl) (H17.out _) ?_
    rintro e w5 ⟨rfl, hB5⟩
    have hH5 := (HK.out w5 hB5).g3
    refine ⟨_, rfl, hH5, ?_⟩
    simp only [List.setIfInBounds_toArray, List.set_cons_zero, List.set_cons_succ]
    refine takeH 6 16 (.tuple #[.int .i64 m, .bool true]) rfl (by kernel_rfl) (by kernel_rfl) (by kernel_rfl) (by kernel_rfl) (fun _ _ _ h => h) (by kernel_rfl) (fun w hw => by kernel_rfl) hH5 ?_
    simp only [List.setIfInBounds_toArray, List.set_cons_zero, List.set_cons_succ]
    refine takeH 7 23 (.int .i64 (m)) rfl (by kernel_rfl) (by kernel_rfl) (by kernel_rfl) (by kernel_rfl) (fun _ _ _ h => h) (by kernel_rfl) (fun w hw => by (try dsimp only at hw); go_simp) hH5 ?_
    simp only [List.setIfInBounds_toArray, List.set_cons_zero, List.set_cons_succ]
    refine takeH 8 24 (.bool true) rfl (by kernel_rfl) (by kernel_rfl) (by kernel_rfl) (by kernel_rfl) (fun _ _ _ h => h) (by kernel_rfl) (fun w hw => by (try dsimp only at hw); go_simp) hH5 ?_
    simp only [List.setIfInBounds_toArray, List.set_cons_zero, List.set_cons_succ]
    refine takeH 9 6 (.int .i64 (m)) rfl (by kernel_rfl) (by kernel_rfl) (by kernel_rfl) (by kernel_rfl) (fun _ _ _ h => h) (by kernel_rfl) (fun w hw => by kernel_rfl) hH5 ?_
    simp only [List.setIfInBounds_toArray, List.set_cons_zero, List.set_cons_succ]
    refine takeH 10 7 (.bool true) rfl (by kernel_rfl) (by kernel_rfl) (by kernel_rfl) (by kernel_rfl) (fun _ _ _ h => h) (by kernel_rfl) (fun w hw => by kernel_rfl) hH5 ?_
    simp only [List.setIfInBounds_toArray, List.set_cons_zero, List.set_cons_succ]
    refine wpAnyH_done (by kernel_rfl) ?_ _
    obtain ⟨c0, c1, c2⟩ := hH5
    have HB5 := Hid.mk hB5
    clear hB5 hH
    go_wp2_with fail
    go_quiet (fail)
    go_wp2
    go_ret2
    exact ⟨by rw [HV.out]; rfl, (HB1.out.drew.trans (HB5.out.mono HB1.out.size)).drewN _⟩
theorem do_tot {G I D b : Int} : doB G I D b = true ↔ 1 ≤ b ∧ b < totI G I D ∧ 1 + I ≤ (b - 1) % (1 + I + D) := by
  rw [do_iff]
  cases hg : good G I D with
  | true => rw [tot_yes hg]; simp
  | false => rw [tot_no hg]; simp; try omega
set_option maxRecDepth 100000 in
set_option maxHeartbeats 4000000 in
theorem rdataof_any (w : World) (G I D b : Int) : Calls Tryz.prog 46 #[geo G I D, .int .i64 b] w fun e w' => e = .returned (.tuple #[.int .i64 (doI G I D b), .bool (doB G I D b)]) ∧ Below w.heap.size w w' := by
  have HI := Hid.mk (fun w => rtotal_any w G I D)
  have hdo := do_tot (G := G) (I := I) (D := D) (b := b)
  by_cases h1 : b < 1
  · have HV := Hid.mk (do_no (G := G) (I := I) (D := D) (b := b) (fun hh => by have := hdo.1 hh; omega))
    clear hdo
    go_enter Tryz.func46, Tryz.ntmps46
    go_wp2
    go_ret2
    exact ⟨by rw [HV.out.1, HV.out.2]; rfl, (Below.refl _ w).alloc (Nat.le_refl _) _⟩
  · by_cases h2 : totI G I D ≤ b
    · have HV := Hid.mk (do_no (G := G) (I := I) (D := D) (b := b) (fun hh => by have := hdo.1 hh; omega))
      clear hdo
      go_enter Tryz.func46, Tryz.ntmps46
      go_wp2_with (go_at_call 36; refine (HI.out _).mono ?_; rintro e w1 ⟨rfl, hB⟩; obtain ⟨hG1, hB1⟩ := behind hB; obtain ⟨c0, c1, c2⟩ := hG1.g3; have HG1 := Hid.mk hG1; have HB1 := Hid.mk hB1; clear hB hG1 hB1)
      go_ret2
      exact ⟨by rw [HV.out.1, HV.out.2]; rfl, HB1.out⟩
    · have hg : good G I D = true := by
        cases hg : good G I D with
        | true => rfl
        | false => rw [tot_no hg] at h2; omega
      have hgb := good_iff.1 hg
      have ht := tot_yes hg
      have m3 := mul_fits (a := G) (A := 8) (b := 1 + I + D) (B := 1005) (by omega) (by omega) (by omega) (by omega)
      have H28 := Hid.mk (fun w => per_any w G I D hg)
      have t1 : (b - 1).tdiv (1 + I + D) = (b - 1) / (1 + I + D) := Int.tdiv_eq_ediv_of_nonneg (by omega)
      have t2 : (b - 1).tmod (1 + I + D) = (b - 1) % (1 + I + D) := Int.tmod_eq_emod_of_nonneg (by omega)
      obtain ⟨e1, e2, e3⟩ := divmod_of (b - 1) (1 + I + D) (by omega)
      have d1 : 0 ≤ (b - 1) / (1 + I + D) := div_nonneg (by omega) (by omega)
      have d2 : (b - 1) / (1 + I + D) < G := div_lt (by omega) (by omega)
      have HV : Hid (if 1 + I ≤ (b - 1) % (1 + I + D) then doB G I D b = true ∧ doI G I D b = (b - 1) / (1 + I + D) * D + ((b - 1) % (1 + I + D) - 1 - I) else doB G I D b = false ∧ doI G I D b = 0) := Hid.mk (by
        split
        · next h => have hh := hdo.2 ⟨by omega, by omega, h⟩; exact ⟨hh, do_yes hh⟩
        · next h => exact do_no (fun hh => h (hdo.1 hh).2.2))
      obtain ⟨k, ek⟩ : ∃ k, (b - 1) / (1 + I + D) = k := ⟨_, rfl⟩
      obtain ⟨r, er⟩ : ∃ r, (b - 1) % (1 + I + D) = r := ⟨_, rfl⟩
      rw [ek] at t1 HV d1 d2
      rw [er] at t2 HV e2 e3
      have m2 := mul_fits (a := k) (A := 8) (b := D) (B := 1000) (by omega) (by omega) (by omega) (by omega)
      have w0' : IntKind.i64.wrap (b - 1) = b - 1 := by rw [IntKind.wrap_i64]; omega
      have z1 : ¬ 1 + I + D = 0 := by omega
      have w1' : IntKind.i64.wrap k = k := by rw [IntKind.wrap_i64]; omega
      have w2' : IntKind.i64.wrap r = r := by rw [IntKind.wrap_i64]; omega
      have w3' : IntKind.i64.wrap (r - 1) = r - 1 := by rw [IntKind.wrap_i64]; omega
      have w4' : IntKind.i64.wrap (r - 1 - I) = r - 1 - I := by rw [IntKind.wrap_i64]; omega
      have w5' : IntKind.i64.wrap (k * D) = k * D := by rw [IntKind.wrap_i64]; omega
      have w6' : IntKind.i64.wrap (k * D + (r - 1 - I)) = k * D + (r - 1 - I) := by rw [IntKind.wrap_i64]; omega
      obtain ⟨T, eT⟩ : ∃ T, totI G I D = T := ⟨_, rfl⟩
      rw [eT] at HI h2
      obtain ⟨P, eP⟩ : ∃ P, 1 + I + D = P := ⟨_, rfl⟩
      rw [eP] at H28 t1 t2 z1
      clear hdo hg hgb ht m3 e1 e2 e3 d1 d2 ek er m2 eT eP
      go_enter Tryz.func46, Tryz.ntmps46
      go_wp2_with (first | (go_at_call 36; refine (HI.out _).mono ?_; rintro e w1 ⟨rfl, hB⟩; obtain ⟨hG1, hB1⟩ := behind hB; obtain ⟨c0, c1, c2⟩ := hG1.g3; have HG1 := Hid.mk hG1; have HB1 := Hid.mk hB1; clear hB hG1 hB1) | (go_at_call 76; refine (H28.out _).mono ?_; rintro e w3 ⟨rfl, hB3⟩; obtain ⟨hG3, hB3'⟩ := HG1.out.then HB1.out hB3; clear HG1 HB1 c0 c1 c2; obtain ⟨c0, c1, c2⟩ := hG3.g3; have HG1 := Hid.mk hG3; have HB1 := Hid.mk hB3'; clear hB3 hG3 hB3'))
      have HK : Hid (∀ W', Below w3.heap.size w3.drew W' → GAt w.heap.size G I D W') := Hid.mk (fun W' hB => GAt.below (W := w3.drew) HG1.out hB HG1.out.lt)
      clear c0 c1 c2
      refine wp_region_held_drew (S := G3 w.heap.size G I D) (by kernel_rfl) (HK.out _ (Below.refl _ _)).g3 (fun hH => ?_)
      change wpAnyH Tryz.prog Region.Mode.any _ _ _ 10 _ _ _
      refine takeH 0 21 (.int .i64 (b)) rfl (by kernel_rfl) (by kernel_rfl) (by kernel_rfl) (by kernel_rfl) (fun _ _ _ h => h) (by kernel_rfl) (fun w hw => by kernel_rfl) hH ?_
      simp only [List.setIfInBounds_toArray, List.set_cons_zero, List.set_cons_succ]
      refine takeH 1 22 (.int .i64 (b - 1)) rfl (by kernel_rfl) (by kernel_rfl) (by kernel_rfl) (by kernel_rfl) (fun _ _ _ h => h) (by kernel_rfl) (fun w hw => by (try dsimp only at hw); go_simp) hH ?_
      simp only [List.setIfInBounds_toArray, List.set_cons_zero, List.set_cons_succ]
      refine takeH 2 23 (geo G I D) rfl (by kernel_rfl) (by kernel_rfl) (by kernel_rfl) (by kernel_rfl) (fun _ _ _ h => h) (by kernel_rfl) (fun w hw => by (try dsimp only at hw); go_simp) hH ?_
      simp only [List.setIfInBounds_toArray, List.set_cons_zero, List.set_cons_succ]
      refine takeH 6 27 (.pointer (some ⟨w.heap.size, 1, none⟩)) rfl (by kernel_rfl) (by kernel_rfl) (by kernel_rfl) (by kernel_rfl) (fun _ _ _ h => h) (by kernel_rfl) (fun w hw => by (try dsimp only at hw); go_simp) hH ?_
      simp only [List.setIfInBounds_toArray, List.set_cons_zero, List.set_cons_succ]
      refine takeH 7 28 (.int .i64 (I)) rfl (by kernel_rfl) (by kernel_rfl) (by kernel_rfl) (by kernel_rfl) (fun _ _ _ h => h) (by kernel_rfl) (fun w hw => by (try dsimp only at hw); go_simp) hH ?_
      simp only [List.setIfInBounds_toArray, List.set_cons_zero, List.set_cons_succ]
      refine stepH_call 3 24 rfl (by kernel_rfl) (by kernel_rfl) (by kernel_rfl) 76 #[.tmp 23] #[23] (by kernel_rfl) (enters_of Tryz.func76 (by kernel_rfl) rfl) #[geo G I D] (by kernel_rfl) (H28.out _) ?_
      rintro e w5 ⟨rfl, hB5⟩
      have hH5 := (HK.out w5 hB5).g3
      refine ⟨_, rfl, hH5, ?_⟩
      simp only [List.setIfInBounds_toArray, List.set_cons_zero, List.set_cons_succ]
      refine takeH 4 25 (.int .i64 (r)) rfl (by kernel_rfl) (by kernel_rfl) (by kernel_rfl) (by kernel_rfl) (fun _ _ _ h => h) (by kernel_rfl) (fun w hw => by (try dsimp only at hw); go_simp) hH5 ?_
      simp only [List.setIfInBounds_toArray, List.set_cons_zero, List.set_cons_succ]
      refine takeH 5 26 (.int .i64 (r - 1)) rfl (by kernel_rfl) (by kernel_rfl) (by kernel_rfl) (by kernel_rfl) (fun _ _ _ h => h) (by kernel_rfl) (fun w hw => by (try dsimp only at hw); go_simp) hH5 ?_
      simp only [List.setIfInBounds_toArray, List.set_cons_zero, List.set_cons_succ]
      refine takeH 8 29 (.int .i64 (r - 1 - I)) rfl (by kernel_rfl) (by kernel_rfl) (by kernel_rfl) (by kernel_rfl) (fun _ _ _ h => h) (by kernel_rfl) (fun w hw => by (try dsimp only at hw); go_simp) hH5 ?_
      simp only [List.setIfInBounds_toArray, List.set_cons_zero, List.set_cons_succ]
      refine takeH 9 7 (.int .i64 (r - 1 - I)) rfl (by kernel_rfl) (by kernel_rfl) (by kernel_rfl) (by kernel_rfl) (fun _ _ _ h => h) (by kernel_rfl) (fun w hw => by kernel_rfl) hH5 ?_
      simp only [List.setIfInBounds_toArray, List.set_cons_zero, List.set_cons_succ]
      refine wpAnyH_done (by kernel_rfl) ?_ _
      obtain ⟨c0, c1, c2⟩ := hH5
      have HB5 := Hid.mk hB5
      clear hB5 hH
      by_cases h3 : 1 + I ≤ r
      · have HV2 := HV.out
        rw [if_pos h3] at HV2
        have HV3 := Hid.mk HV2
        have h4 : ¬ r - 1 - I < 0 := by omega
        clear HV2 HV h3
        go_wp2
        go_ret2
        exact ⟨by rw [HV3.out.1, HV3.out.2]; rfl, HB1.out.drew.trans (HB5.out.mono HB1.out.size)⟩
      · have HV2 := HV.out
        rw [if_neg h3] at HV2
        have HV3 := Hid.mk HV2
        have h4 : r - 1 - I < 0 := by omega
        clear HV2 HV h3
        go_wp2
        go_ret2
        exact ⟨by rw [HV3.out.1, HV3.out.2]; rfl, HB1.out.drew.trans (HB5.out.mono HB1.out.size)⟩
end Go.Proofs.YtejnmpnioeamhaaGreat
