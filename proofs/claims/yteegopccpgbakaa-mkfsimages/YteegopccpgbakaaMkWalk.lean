/-
  MkfsImages: the empty file system of every geometry.
-/
import Derived.Test.YteegopccpgbakaaMkAlive
import Derived.Test.YteegopccpgbakaaMkRef
namespace Go.Proofs.Yteegopccpgbakaa
open Go Go.Proofs Go.RowKit Go.Shelf
namespace Mk
open Sup (superL headL)
open Din (inoL)
open Ent (blockL)
set_option maxRecDepth 100000 in
set_option maxHeartbeats 1000000 in
theorem images_no (w : World) (G I D : Int) (hg : good G I D = false) : Calls Try.prog 3 #[geo G I D] w fun e w' => e = .returned (.bool true) ∧ Below w.heap.size w w' := by
  have HG := Hid.mk hg
  clear hg
  go_enter Try.func3, Try.ntmps3
  go_wp2_with (first
    | (go_at_call 4; refine (alive_any _).mono ?_; rintro e w1 ⟨rfl, hB⟩; obtain ⟨hG1, hB1⟩ := behind hB; obtain ⟨c0, c1, c2⟩ := hG1.g3; have HG1 := Hid.mk hG1; have HB1 := Hid.mk hB1; clear hB hG1 hB1)
    | (go_at_call 5; refine (good_is _ G I D false HG.out).mono ?_; rintro e w1 ⟨rfl, hB⟩; obtain ⟨hG1, hB1⟩ := HG1.out.then HB1.out hB; clear c0 c1 c2 HG1 HB1; obtain ⟨c0, c1, c2⟩ := hG1.g3; have HG1 := Hid.mk hG1; have HB1 := Hid.mk hB1; clear hB hG1 hB1)
    | (go_at_call 6; refine (image_no _ G I D HG.out).mono ?_; rintro e w1 ⟨rfl, hB⟩; obtain ⟨hG1, hB1⟩ := HG1.out.then HB1.out hB; clear c0 c1 c2 HG1 HB1; obtain ⟨c0, c1, c2⟩ := hG1.g3; have HG1 := Hid.mk hG1; have HB1 := Hid.mk hB1; clear hB hG1 hB1)
    | (go_at_call 7; refine (num_any _ _).mono ?_; rintro e w3 ⟨rfl, hw⟩; subst w3))
  go_ret
  exact ⟨rfl, HB1.out⟩
set_option maxRecDepth 100000 in
set_option maxHeartbeats 1000000 in
theorem images_big (w : World) (G I D : Int) (hg : good G I D = true) (hm : 600 < G * D) : Calls Try.prog 3 #[geo G I D] w fun e w' => e = .returned (.bool true) ∧ Below w.heap.size w w' := by
  have hb := good_iff.1 hg
  have HG := Hid.mk hg
  have m1 := mul_fits (a := G) (A := 8) (b := D) (B := 1000) (by omega) (by omega) (by omega) (by omega)
  have hw : IntKind.i64.wrap (G * D) = G * D := by rw [IntKind.wrap_i64]; omega
  clear hg hb
  go_enter Try.func3, Try.ntmps3
  go_wp2_with (first
    | (go_at_call 4; refine (alive_any _).mono ?_; rintro e w1 ⟨rfl, hB⟩; obtain ⟨hG1, hB1⟩ := behind hB; obtain ⟨c0, c1, c2⟩ := hG1.g3; have HG1 := Hid.mk hG1; have HB1 := Hid.mk hB1; clear hB hG1 hB1)
    | (go_at_call 5; refine (good_is _ G I D true HG.out).mono ?_; rintro e w1 ⟨rfl, hB⟩; obtain ⟨hG1, hB1⟩ := HG1.out.then HB1.out hB; clear c0 c1 c2 HG1 HB1; obtain ⟨c0, c1, c2⟩ := hG1.g3; have HG1 := Hid.mk hG1; have HB1 := Hid.mk hB1; clear hB hG1 hB1))
  go_ret
  exact ⟨rfl, HB1.out⟩
set_option maxRecDepth 100000 in
set_option maxHeartbeats 4000000 in
theorem images_yes (w : World) (G I D : Int) (hg : good G I D = true) (hm : G * D ≤ 600) : Calls Try.prog 3 #[geo G I D] w fun e w' => e = .returned (.bool true) ∧ Below w.heap.size w w' := by
  have hb := good_iff.1 hg
  have HG := Hid.mk hg
  have HML := Hid.mk (imgL_length hg)
  have HMK := Hid.mk (fun W => rmkfs_any W G I D hg)
  have HIM := Hid.mk (fun W => image_yes W G I D hg)
  have m1 := mul_fits (a := G) (A := 8) (b := D) (B := 1000) (by omega) (by omega) (by omega) (by omega)
  have hw : IntKind.i64.wrap (G * D) = G * D := by rw [IntKind.wrap_i64]; omega
  obtain ⟨n, hn⟩ : ∃ n, n = totN G I D * 1024 := ⟨_, rfl⟩
  rw [← hn] at HML HMK HIM
  clear hg hb hn
  go_enter Try.func3, Try.ntmps3
  go_wp2_with (first
    | (go_at_call 4; refine (alive_any _).mono ?_; rintro e w1 ⟨rfl, hB⟩; obtain ⟨hG1, hB1⟩ := behind hB; obtain ⟨c0, c1, c2⟩ := hG1.g3; have HG1 := Hid.mk hG1; have HB1 := Hid.mk hB1; clear hB hG1 hB1)
    | (go_at_call 5; refine (good_is _ G I D true HG.out).mono ?_; rintro e w1 ⟨rfl, hB⟩; obtain ⟨hG1, hB1⟩ := HG1.out.then HB1.out hB; clear c0 c1 c2 HG1 HB1; obtain ⟨c0, c1, c2⟩ := hG1.g3; have HG1 := Hid.mk hG1; have HB1 := Hid.mk hB1; clear hB hG1 hB1)
    | (go_at_call 6; refine (HIM.out _).mono ?_; rintro e w3 ⟨g, rfl, hrow, hge, hB⟩; obtain ⟨hG1, hB1⟩ := HG1.out.then HB1.out hB; clear c0 c1 c2 HG1 HB1; have HG1 := Hid.mk hG1; have HB1 := Hid.mk hB1; have HRW := Hid.mk hrow; clear hB hG1 hB1 hrow hge))
  have hcv : ∀ W', RAt W' g (imgL G I D) → (convert 26 9 (.slice (some ⟨g, 0, none⟩) n n)).run Try.prog W' = .ok (.string (strOfNums (imgL G I D))) W' := fun W' hr => conv_bytes W' (some ⟨g, 0, none⟩) n n _ (hr.full HML.out)
  obtain ⟨SX, hSX⟩ : ∃ SX, SX = strOfNums (imgL G I D) := ⟨_, rfl⟩
  rw [← hSX] at hcv
  have HSX := Hid.mk hSX
  have HK : Hid (∀ W', Below w3.heap.size w3.drew W' → G3 w.heap.size G I D W' ∧ (convert 26 9 (.slice (some ⟨g, 0, none⟩) n n)).run Try.prog W' = .ok (.string SX) W') := Hid.mk (fun W' hB =>
    ⟨(GAt.below (W := w3.drew) HG1.out hB HG1.out.lt).g3, hcv W' (RAt.below (W := w3.drew) HRW.out hB HRW.out.lt)⟩)
  clear hSX hcv
  refine wp_region_held_drew (S := fun W' => G3 w.heap.size G I D W' ∧ (convert 26 9 (.slice (some ⟨g, 0, none⟩) n n)).run Try.prog W' = .ok (.string SX) W') (by kernel_rfl) (HK.out _ (Below.refl _ _)) (fun hH => ?_)
  change wpAnyH Try.prog Region.Mode.any _ _ _ 12 _ _ _
  refine takeH 0 39 (.int .i64 0) rfl (by kernel_rfl) (by kernel_rfl) (by kernel_rfl) (by kernel_rfl) (fun _ _ _ h => h) (by kernel_rfl) (fun w hw => by kernel_rfl) hH ?_
  simp only [List.setIfInBounds_toArray, List.set_cons_zero, List.set_cons_succ]
  refine stepH_call 1 40 rfl (by kernel_rfl) (by kernel_rfl) (by kernel_rfl) 7 #[.tmp 39] #[27] (by kernel_rfl) (enters_of Try.func7 (by kernel_rfl) rfl) #[.int .i64 0] (by kernel_rfl) (num_any _ 0) ?_
  rintro e w9 ⟨rfl, hw⟩
  subst w9
  refine ⟨_, rfl, hH, ?_⟩
  simp only [List.setIfInBounds_toArray, List.set_cons_zero, List.set_cons_succ]
  refine takeH 2 41 (.bool true) rfl (by kernel_rfl) (by kernel_rfl) (by kernel_rfl) (by kernel_rfl) (fun _ _ _ h => h) (by kernel_rfl) (fun w hw => by kernel_rfl) hH ?_
  simp only [List.setIfInBounds_toArray, List.set_cons_zero, List.set_cons_succ]
  refine takeH 3 42 (.bool true) rfl (by kernel_rfl) (by kernel_rfl) (by kernel_rfl) (by kernel_rfl) (fun _ _ _ h => h) (by kernel_rfl) (fun w hw => by kernel_rfl) hH ?_
  simp only [List.setIfInBounds_toArray, List.set_cons_zero, List.set_cons_succ]
  refine takeH 4 43 (.slice (some ⟨g, 0, none⟩) n n) rfl (by kernel_rfl) (by kernel_rfl) (by kernel_rfl) (by kernel_rfl) (fun _ _ _ h => h) (by kernel_rfl) (fun w hw => by kernel_rfl) hH ?_
  simp only [List.setIfInBounds_toArray, List.set_cons_zero, List.set_cons_succ]
  refine takeH 5 44 (.string SX) rfl (by kernel_rfl) (by kernel_rfl) (by kernel_rfl) (by kernel_rfl) (fun _ _ _ h => h) (by kernel_rfl) (fun w hw => by exact exec_convert (x := .tmp 43) rfl (by kernel_rfl) hw.2) hH ?_
  simp only [List.setIfInBounds_toArray, List.set_cons_zero, List.set_cons_succ]
  refine takeH 6 45 (geo G I D) rfl (by kernel_rfl) (by kernel_rfl) (by kernel_rfl) (by kernel_rfl) (fun _ _ _ h => h) (by kernel_rfl) (fun w hw => by ((try dsimp only at hw); obtain ⟨⟨g0, g1, g2⟩, -⟩ := hw; go_simp)) hH ?_
  simp only [List.setIfInBounds_toArray, List.set_cons_zero, List.set_cons_succ]
  refine stepH_call 7 46 rfl (by kernel_rfl) (by kernel_rfl) (by kernel_rfl) 8 #[.tmp 45] #[23] (by kernel_rfl) (enters_of Try.func8 (by kernel_rfl) rfl) #[geo G I D] (by kernel_rfl) (HMK.out _) ?_
  rintro e w6 ⟨v6, rfl, ho6, hB6⟩
  obtain ⟨vo, vc, rfl, hba6, -⟩ := owns_BAt ho6
  have hH6 := HK.out w6 hB6
  have hc6 := conv_bytes w6 vo n vc _ hba6
  rw [← HSX.out] at hc6
  have HB6 := Hid.mk hB6
  clear ho6 hB6 hba6
  refine ⟨_, rfl, hH6, ?_⟩
  simp only [List.setIfInBounds_toArray, List.set_cons_zero, List.set_cons_succ]
  refine stepH 8 47 (.string SX) rfl (by kernel_rfl) (by kernel_rfl) (by kernel_rfl) (exec_convert (x := .tmp 46) rfl (by kernel_rfl) hc6) hH6 ?_
  simp only [List.setIfInBounds_toArray, List.set_cons_zero, List.set_cons_succ]
  refine takeH 9 48 (.bool true) rfl (by kernel_rfl) (by kernel_rfl) (by kernel_rfl) (by kernel_rfl) (fun _ _ _ h => h) (by kernel_rfl) (fun w hw => by (go_simp)) hH6 ?_
  simp only [List.setIfInBounds_toArray, List.set_cons_zero, List.set_cons_succ]
  refine takeH 10 49 (.bool true) rfl (by kernel_rfl) (by kernel_rfl) (by kernel_rfl) (by kernel_rfl) (fun _ _ _ h => h) (by kernel_rfl) (fun w hw => by kernel_rfl) hH6 ?_
  simp only [List.setIfInBounds_toArray, List.set_cons_zero, List.set_cons_succ]
  refine takeH 11 2 (.bool true) rfl (by kernel_rfl) (by kernel_rfl) (by kernel_rfl) (by kernel_rfl) (fun _ _ _ h => h) (by kernel_rfl) (fun w hw => by kernel_rfl) hH6 ?_
  simp only [List.setIfInBounds_toArray, List.set_cons_zero, List.set_cons_succ]
  refine wpAnyH_done (by kernel_rfl) ?_ _
  go_wp2
  go_ret
  exact ⟨rfl, HB1.out.drew.trans (HB6.out.mono HB1.out.size)⟩
theorem images_any (w : World) (G I D : Int) : Calls Try.prog 3 #[geo G I D] w fun e w' => e = .returned (.bool true) ∧ Below w.heap.size w w' := by
  cases hg : good G I D with
  | false => exact images_no w G I D hg
  | true =>
    by_cases hm : G * D ≤ 600
    · exact images_yes w G I D hg hm
    · exact images_big w G I D hg (by omega)
end Mk
end Go.Proofs.Yteegopccpgbakaa
