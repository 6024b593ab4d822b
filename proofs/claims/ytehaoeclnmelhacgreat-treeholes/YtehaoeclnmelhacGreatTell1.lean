/-
  What Total, Inodes, Blocks and Head tell, of the program and of the reference.
-/
import Derived.Test.YtehaoeclnmelhacGreatDrawn
namespace Go.Proofs.YtehaoeclnmelhacGreat
open Go Go.Proofs Go.RowKit Go.Shelf
theorem check_yes (w : World) (G I D : Int) (hg : good G I D = true) : Calls Tryz.prog 81 #[geo G I D] w fun e w' => e = .returned (.int .i64 0) ∧ Below w.heap.size w w' := by
  have h := check_any w G I D
  unfold chk at h
  rwa [if_pos hg] at h
theorem check_no (w : World) (G I D : Int) (hg : good G I D = false) : Calls Tryz.prog 81 #[geo G I D] w fun e w' => e = .returned (.int .i64 1) ∧ Below w.heap.size w w' := by
  have h := check_any w G I D
  unfold chk at h
  rwa [if_neg (by simp [hg])] at h
set_option maxRecDepth 100000 in
/-- A call that took a geometry: what lies behind it. -/
theorem behind {w w1 : World} {G I D : Int} (hB : Below (w.alloc (.cells #[.int .i64 G, .int .i64 I, .int .i64 D] 26)).heap.size (w.alloc (.cells #[.int .i64 G, .int .i64 I, .int .i64 D] 26)) w1) : GAt w.heap.size G I D w1 ∧ Below w.heap.size w w1 :=
  ⟨(GAt.new w G I D).below hB (by simp), ((Below.refl _ w).alloc (Nat.le_refl _) _).trans (hB.mono (by simp))⟩
def totI (G I D : Int) : Int := if good G I D = true then 1 + G * (1 + I + D) else 0
def inoI (G I D : Int) : Int := if good G I D = true then G * (I * 16) else 0
def blkI (G I D : Int) : Int := if good G I D = true then G * D else 0
theorem tot_yes {G I D : Int} (h : good G I D = true) : totI G I D = 1 + G * (1 + I + D) := if_pos h
theorem ino_yes {G I D : Int} (h : good G I D = true) : inoI G I D = G * (I * 16) := if_pos h
theorem blk_yes {G I D : Int} (h : good G I D = true) : blkI G I D = G * D := if_pos h
theorem tot_no {G I D : Int} (h : good G I D = false) : totI G I D = 0 := if_neg (by simp [h])
theorem ino_no {G I D : Int} (h : good G I D = false) : inoI G I D = 0 := if_neg (by simp [h])
theorem blk_no {G I D : Int} (h : good G I D = false) : blkI G I D = 0 := if_neg (by simp [h])
set_option maxRecDepth 100000 in
theorem inodes_any (w : World) (G I D : Int) : Calls Tryz.prog 70 #[geo G I D] w fun e w' => e = .returned (.int .i64 (inoI G I D)) ∧ Below w.heap.size w w' := by
  cases hg : good G I D with
  | false =>
    have HG := Hid.mk hg
    have HV := Hid.mk (ino_no hg)
    clear hg
    go_enter Tryz.func70, Tryz.ntmps70
    go_wp2_with (go_at_call 81; refine (check_no _ G I D HG.out).mono ?_; rintro e w1 ⟨rfl, hB⟩; obtain ⟨hG1, hB1⟩ := behind hB; obtain ⟨c0, c1, c2⟩ := hG1.g3; have HG1 := Hid.mk hG1; have HB1 := Hid.mk hB1; clear hB hG1 hB1)
    go_ret
    exact ⟨by rw [HV.out]; rfl, HB1.out⟩
  | true =>
    have hb := good_iff.1 hg
    have m1 := mul_fits (a := G) (A := 8) (b := 1 + I + D) (B := 1005) (by omega) (by omega) (by omega) (by omega)
    have m2 := mul_fits (a := G) (A := 8) (b := D) (B := 1000) (by omega) (by omega) (by omega) (by omega)
    have m3 := mul_fits (a := G) (A := 8) (b := I) (B := 4) (by omega) (by omega) (by omega) (by omega)
    have m4 : G * (I * 16) = G * I * 16 := by rw [Int.mul_assoc]
    have HG := Hid.mk hg
    have HV := Hid.mk (ino_yes hg)
    have h1 : IntKind.i64.wrap (G * (I * 16)) = G * (I * 16) := by rw [IntKind.wrap_i64]; omega
    clear hg hb m1 m2 m3 m4
    go_enter Tryz.func70, Tryz.ntmps70
    go_wp2_with (go_at_call 81; refine (check_yes _ G I D HG.out).mono ?_; rintro e w1 ⟨rfl, hB⟩; obtain ⟨hG1, hB1⟩ := behind hB; obtain ⟨c0, c1, c2⟩ := hG1.g3; have HG1 := Hid.mk hG1; have HB1 := Hid.mk hB1; clear hB hG1 hB1)
    have HK : Hid (∀ W', Below w1.heap.size w1.drew W' → G3 w.heap.size G I D W') := Hid.mk (fun W' hB => (GAt.below (W := w1.drew) HG1.out hB HG1.out.lt).g3)
    clear c0 c1 c2
    refine wp_region_held_drew (S := G3 w.heap.size G I D) (by kernel_rfl) (HK.out _ (Below.refl _ _)) (fun hH => ?_)
    change wpAnyH Tryz.prog Region.Mode.any _ _ _ 6 _ _ _
    refine takeH 0 6 (.pointer (some ⟨w.heap.size, 0, none⟩)) rfl (by kernel_rfl) (by kernel_rfl) (by kernel_rfl) (by kernel_rfl) (fun _ _ _ h => h) (by kernel_rfl) (fun w hw => by (try dsimp only at hw); go_simp) hH ?_
    simp only [List.setIfInBounds_toArray, List.set_cons_zero, List.set_cons_succ]
    refine takeH 1 7 (.int .i64 (G)) rfl (by kernel_rfl) (by kernel_rfl) (by kernel_rfl) (by kernel_rfl) (fun _ _ _ h => h) (by kernel_rfl) (fun w hw => by (try dsimp only at hw); go_simp) hH ?_
    simp only [List.setIfInBounds_toArray, List.set_cons_zero, List.set_cons_succ]
    refine takeH 2 8 (geo G I D) rfl (by kernel_rfl) (by kernel_rfl) (by kernel_rfl) (by kernel_rfl) (fun _ _ _ h => h) (by kernel_rfl) (fun w hw => by (try dsimp only at hw); go_simp) hH ?_
    simp only [List.setIfInBounds_toArray, List.set_cons_zero, List.set_cons_succ]
    refine stepH_call 3 9 rfl (by kernel_rfl) (by kernel_rfl) (by kernel_rfl) 82 #[.tmp 8] #[26] (by kernel_rfl) (enters_of Tryz.func82 (by kernel_rfl) rfl) #[geo G I D] (by kernel_rfl) (ginodes_any _ G I D HG.out) ?_
    rintro e w5 ⟨rfl, hB5⟩
    have hH5 := HK.out w5 hB5
    refine ⟨_, rfl, hH5, ?_⟩
    simp only [List.setIfInBounds_toArray, List.set_cons_zero, List.set_cons_succ]
    refine takeH 4 10 (.int .i64 (G * (I * 16))) rfl (by kernel_rfl) (by kernel_rfl) (by kernel_rfl) (by kernel_rfl) (fun _ _ _ h => h) (by kernel_rfl) (fun w hw => by (try dsimp only at hw); go_simp) hH5 ?_
    simp only [List.setIfInBounds_toArray, List.set_cons_zero, List.set_cons_succ]
    refine takeH 5 2 (.int .i64 (G * (I * 16))) rfl (by kernel_rfl) (by kernel_rfl) (by kernel_rfl) (by kernel_rfl) (fun _ _ _ h => h) (by kernel_rfl) (fun w hw => by kernel_rfl) hH5 ?_
    simp only [List.setIfInBounds_toArray, List.set_cons_zero, List.set_cons_succ]
    refine wpAnyH_done (by kernel_rfl) ?_ _
    go_wp2
    go_ret
    exact ⟨by rw [HV.out]; rfl, HB1.out.drew.trans (hB5.mono HB1.out.size)⟩
set_option maxRecDepth 100000 in
theorem blocks_any (w : World) (G I D : Int) : Calls Tryz.prog 71 #[geo G I D] w fun e w' => e = .returned (.int .i64 (blkI G I D)) ∧ Below w.heap.size w w' := by
  cases hg : good G I D with
  | false =>
    have HG := Hid.mk hg
    have HV := Hid.mk (blk_no hg)
    clear hg
    go_enter Tryz.func71, Tryz.ntmps71
    go_wp2_with (go_at_call 81; refine (check_no _ G I D HG.out).mono ?_; rintro e w1 ⟨rfl, hB⟩; obtain ⟨hG1, hB1⟩ := behind hB; obtain ⟨c0, c1, c2⟩ := hG1.g3; have HG1 := Hid.mk hG1; have HB1 := Hid.mk hB1; clear hB hG1 hB1)
    go_ret
    exact ⟨by rw [HV.out]; rfl, HB1.out⟩
  | true =>
    have hb := good_iff.1 hg
    have m1 := mul_fits (a := G) (A := 8) (b := 1 + I + D) (B := 1005) (by omega) (by omega) (by omega) (by omega)
    have m2 := mul_fits (a := G) (A := 8) (b := D) (B := 1000) (by omega) (by omega) (by omega) (by omega)
    have m3 := mul_fits (a := G) (A := 8) (b := I) (B := 4) (by omega) (by omega) (by omega) (by omega)
    have m4 : G * (I * 16) = G * I * 16 := by rw [Int.mul_assoc]
    have HG := Hid.mk hg
    have HV := Hid.mk (blk_yes hg)
    have h1 : IntKind.i64.wrap (G * D) = G * D := by rw [IntKind.wrap_i64]; omega
    clear hg hb m1 m2 m3 m4
    go_enter Tryz.func71, Tryz.ntmps71
    go_wp2_with (go_at_call 81; refine (check_yes _ G I D HG.out).mono ?_; rintro e w1 ⟨rfl, hB⟩; obtain ⟨hG1, hB1⟩ := behind hB; obtain ⟨c0, c1, c2⟩ := hG1.g3; have HG1 := Hid.mk hG1; have HB1 := Hid.mk hB1; clear hB hG1 hB1)
    go_ret
    exact ⟨by rw [HV.out]; rfl, HB1.out⟩
def hdB (G I D k : Int) : Bool := good G I D && (decide (0 ≤ k) && decide (k < G))
def hdI (G I D k : Int) : Int := if hdB G I D k = true then 1 + k * (1 + I + D) else 0
theorem hd_yes {G I D k : Int} (hg : good G I D = true) (h0 : 0 ≤ k) (h1 : k < G) : hdB G I D k = true ∧ hdI G I D k = 1 + k * (1 + I + D) := by
  have h : hdB G I D k = true := by simp [hdB, hg, h0, h1]
  exact ⟨h, if_pos h⟩
set_option maxRecDepth 100000 in
theorem hd_no {G I D k : Int} (h : good G I D = false ∨ k < 0 ∨ G ≤ k) : hdB G I D k = false ∧ hdI G I D k = 0 := by
  have h' : hdB G I D k = false := by
    rcases h with h | h | h
    · simp [hdB, h]
    · simp [hdB, show ¬ (0 ≤ k) by omega]
    · simp [hdB, show ¬ (k < G) by omega]
  exact ⟨h', if_neg (by simp [h'])⟩
end Go.Proofs.YtehaoeclnmelhacGreat
