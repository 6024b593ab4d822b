/-
  SuperPacks: the superblock of every geometry that may be, and that it is read as it.
-/
import Derived.Test.YtebeejmpnkdllaaAlive
namespace Go.Proofs.Ytebeejmpnkdllaa
open Go Go.Proofs Go.RowKit Go.Shelf

/-- A second call that took the geometry. -/
theorem GAt.then {w w1 w2 : World} {G I D : Int} (hG : GAt w.heap.size G I D w1) (hB : Below w.heap.size w w1) (h : Below w1.heap.size w1 w2) : GAt w.heap.size G I D w2 ∧ Below w.heap.size w w2 :=
  ⟨hG.below h hG.lt, hB.trans (h.mono hB.size)⟩

theorem packs_no (w : World) (G I D : Int) (hg : good G I D = false) : Calls Try.prog 3 #[geo G I D] w fun e w' => e = .returned (.bool true) ∧ Below w.heap.size w w' := by
  have HG := Hid.mk hg
  clear hg
  go_enter Try.func3, Try.ntmps3
  go_wp2_with (first
    | (go_at_call 6; refine (alive_any _).mono ?_; rintro e w1 ⟨rfl, hB⟩; obtain ⟨hG1, hB1⟩ := behind hB; obtain ⟨c0, c1, c2⟩ := hG1.g3; have HG1 := Hid.mk hG1; have HB1 := Hid.mk hB1; clear hB hG1 hB1)
    | (go_at_call 7; refine (good_is _ G I D false HG.out).mono ?_; rintro e w1 ⟨rfl, hB⟩; obtain ⟨hG1, hB1⟩ := HG1.out.then HB1.out hB; clear c0 c1 c2 HG1 HB1; obtain ⟨c0, c1, c2⟩ := hG1.g3; have HG1 := Hid.mk hG1; have HB1 := Hid.mk hB1; clear hB hG1 hB1)
    | (go_at_call 8; refine (pack_no _ G I D HG.out).mono ?_; rintro e w1 ⟨rfl, hB⟩; obtain ⟨hG1, hB1⟩ := HG1.out.then HB1.out hB; clear c0 c1 c2 HG1 HB1; obtain ⟨c0, c1, c2⟩ := hG1.g3; have HG1 := Hid.mk hG1; have HB1 := Hid.mk hB1; clear hB hG1 hB1)
    | (go_at_call 9; refine (num_any _ _).mono ?_; rintro e w3 ⟨rfl, hw⟩; subst w3))
  go_ret
  exact ⟨rfl, HB1.out⟩

set_option maxRecDepth 100000 in
set_option maxHeartbeats 4000000 in
theorem packs_yes (w : World) (G I D : Int) (hg : good G I D = true) : Calls Try.prog 3 #[geo G I D] w fun e w' => e = .returned (.bool true) ∧ Below w.heap.size w w' := by
  have HG := Hid.mk hg
  obtain ⟨hr1, hr2, hr3⟩ := super_reads hg
  have HPS := Hid.mk (fun W => packsuper_any W G I D hg)
  have HR : Hid (∀ (W : World) (g : Nat), RAt W g (superL G I D) → Calls Try.prog 10 #[.slice (some ⟨g, 0, none⟩) 1024 1024] W fun e w' => e = .returned (.tuple #[geo G I D, .int .i64 0]) ∧ Below W.heap.size W w') := Hid.mk (fun W g hr => by
    have h := read_any W (some ⟨g, 0, none⟩) 1024 1024 (superL G I D) (hr.full (superL_length _ _ _)) (superL_bound _ _ _) (by omega) (by omega)
    rwa [hr2, hr3] at h)
  clear hg hr1 hr2 hr3
  go_enter Try.func3, Try.ntmps3
  go_wp2_with (first
    | (go_at_call 6; refine (alive_any _).mono ?_; rintro e w1 ⟨rfl, hB⟩; obtain ⟨hG1, hB1⟩ := behind hB; obtain ⟨c0, c1, c2⟩ := hG1.g3; have HG1 := Hid.mk hG1; have HB1 := Hid.mk hB1; clear hB hG1 hB1)
    | (go_at_call 7; refine (good_is _ G I D true HG.out).mono ?_; rintro e w1 ⟨rfl, hB⟩; obtain ⟨hG1, hB1⟩ := HG1.out.then HB1.out hB; clear c0 c1 c2 HG1 HB1; obtain ⟨c0, c1, c2⟩ := hG1.g3; have HG1 := Hid.mk hG1; have HB1 := Hid.mk hB1; clear hB hG1 hB1)
    | (go_at_call 8; refine (pack_yes _ G I D HG.out).mono ?_; rintro e w1 ⟨g, rfl, hrow, hge, hB⟩; obtain ⟨hG1, hB1⟩ := HG1.out.then HB1.out hB; clear c0 c1 c2 HG1 HB1; have HG1 := Hid.mk hG1; have HB1 := Hid.mk hB1; have HRW := Hid.mk hrow; clear hB hG1 hB1 hrow hge)
    | (go_at_call 10; refine (HR.out _ _ HRW.out).mono ?_; rintro e w3 ⟨rfl, hB⟩; obtain ⟨hG2, hB2⟩ := HG1.out.then HB1.out hB; have hrow := HRW.out.below hB HRW.out.lt; clear HG1 HB1 HRW; have HG1 := Hid.mk hG2; have HB1 := Hid.mk hB2; have HRW := Hid.mk hrow; have hlt := hG2.lt; clear hB hG2 hB2 hrow)
    | (go_at_call 9; refine (num_any _ _).mono ?_; rintro e w3 ⟨rfl, hw⟩; subst w3))
  have hcv : ∀ W', RAt W' g (superL G I D) → (convert 26 9 (.slice (some ⟨g, 0, none⟩) 1024 1024)).run Try.prog W' = .ok (.string (strOfNums (superL G I D))) W' := fun W' hr => conv_bytes W' (some ⟨g, 0, none⟩) 1024 1024 _ (hr.full (superL_length _ _ _))
  obtain ⟨SX, hSX⟩ : ∃ SX, SX = strOfNums (superL G I D) := ⟨_, rfl⟩
  rw [← hSX] at hcv
  have HSX := Hid.mk hSX
  have hbn : Below w3.heap.size w3 (w3.alloc (.cells #[.int .i64 G, .int .i64 I, .int .i64 D] 23)) := (Below.refl _ w3).alloc (Nat.le_refl _) _
  have HK : Hid (∀ W', Below (w3.alloc (.cells #[.int .i64 G, .int .i64 I, .int .i64 D] 23)).heap.size (w3.alloc (.cells #[.int .i64 G, .int .i64 I, .int .i64 D] 23)).drew W' → G3 w.heap.size G I D W' ∧ G3 w3.heap.size G I D W' ∧ (convert 26 9 (.slice (some ⟨g, 0, none⟩) 1024 1024)).run Try.prog W' = .ok (.string SX) W') := Hid.mk (fun W' hB =>
    ⟨(GAt.below (W := (w3.alloc (.cells #[.int .i64 G, .int .i64 I, .int .i64 D] 23)).drew) (HG1.out.below hbn.drew HG1.out.lt) hB (by have := HG1.out.lt; simp; omega)).g3, (GAt.below (W := (w3.alloc (.cells #[.int .i64 G, .int .i64 I, .int .i64 D] 23)).drew) (GAt.new w3 G I D) hB (by simp)).g3, hcv W' (RAt.below (W := (w3.alloc (.cells #[.int .i64 G, .int .i64 I, .int .i64 D] 23)).drew) (HRW.out.below hbn.drew HRW.out.lt) hB (by have := HRW.out.lt; simp; omega))⟩)
  clear hSX hcv hbn hlt
  refine wp_region_held_drew (S := fun W' => G3 w.heap.size G I D W' ∧ G3 w3.heap.size G I D W' ∧ (convert 26 9 (.slice (some ⟨g, 0, none⟩) 1024 1024)).run Try.prog W' = .ok (.string SX) W') (by kernel_rfl) (HK.out _ (Below.refl _ _)) (fun hH => ?_)
  change wpAnyH Try.prog Region.Mode.any _ _ _ 22 _ _ _
  refine takeH 0 34 (.int .i64 (0)) rfl (by kernel_rfl) (by kernel_rfl) (by kernel_rfl) (by kernel_rfl) (fun _ _ _ h => h) (by kernel_rfl) (fun w hw => by kernel_rfl) hH ?_
  simp only [List.setIfInBounds_toArray, List.set_cons_zero, List.set_cons_succ]
  refine stepH_call 1 35 rfl (by kernel_rfl) (by kernel_rfl) (by kernel_rfl) 9 #[.tmp 34] #[27] (by kernel_rfl) (enters_of Try.func9 (by kernel_rfl) rfl) #[.int .i64 (0)] (by kernel_rfl) (num_any _ 0) ?_
  rintro e w9 ⟨rfl, hw⟩
  subst w9
  refine ⟨_, rfl, hH, ?_⟩
  simp only [List.setIfInBounds_toArray, List.set_cons_zero, List.set_cons_succ]
  refine takeH 2 36 (.bool true) rfl (by kernel_rfl) (by kernel_rfl) (by kernel_rfl) (by kernel_rfl) (fun _ _ _ h => h) (by kernel_rfl) (fun w hw => by kernel_rfl) hH ?_
  simp only [List.setIfInBounds_toArray, List.set_cons_zero, List.set_cons_succ]
  refine takeH 3 37 (.bool true) rfl (by kernel_rfl) (by kernel_rfl) (by kernel_rfl) (by kernel_rfl) (fun _ _ _ h => h) (by kernel_rfl) (fun w hw => by kernel_rfl) hH ?_
  simp only [List.setIfInBounds_toArray, List.set_cons_zero, List.set_cons_succ]
  refine takeH 4 38 (.slice (some ⟨g, 0, none⟩) 1024 1024) rfl (by kernel_rfl) (by kernel_rfl) (by kernel_rfl) (by kernel_rfl) (fun _ _ _ h => h) (by kernel_rfl) (fun w hw => by kernel_rfl) hH ?_
  simp only [List.setIfInBounds_toArray, List.set_cons_zero, List.set_cons_succ]
  refine takeH 5 39 (.string SX) rfl (by kernel_rfl) (by kernel_rfl) (by kernel_rfl) (by kernel_rfl) (fun _ _ _ h => h) (by kernel_rfl) (fun w hw => by exact exec_convert (x := .tmp 38) rfl (by kernel_rfl) hw.2.2) hH ?_
  simp only [List.setIfInBounds_toArray, List.set_cons_zero, List.set_cons_succ]
  refine takeH 6 40 (geo G I D) rfl (by kernel_rfl) (by kernel_rfl) (by kernel_rfl) (by kernel_rfl) (fun _ _ _ h => h) (by kernel_rfl) (fun w hw => by ((try dsimp only at hw); obtain ⟨⟨g0, g1, g2⟩, -, -⟩ := hw; go_simp)) hH ?_
  simp only [List.setIfInBounds_toArray, List.set_cons_zero, List.set_cons_succ]
  refine stepH_call 7 41 rfl (by kernel_rfl) (by kernel_rfl) (by kernel_rfl) 11 #[.tmp 40] #[23] (by kernel_rfl) (enters_of Try.func11 (by kernel_rfl) rfl) #[geo G I D] (by kernel_rfl) (HPS.out _) ?_
  rintro e w6 ⟨v6, rfl, ho6, hB6⟩
  obtain ⟨vo, vc, rfl, hba6, -⟩ := owns_BAt ho6
  have hH6 := HK.out w6 hB6
  have hc6 := conv_bytes w6 vo 1024 vc _ hba6
  rw [← HSX.out] at hc6
  have HB6 := Hid.mk hB6
  clear ho6 hB6 hba6
  refine ⟨_, rfl, hH6, ?_⟩
  simp only [List.setIfInBounds_toArray, List.set_cons_zero, List.set_cons_succ]
  refine stepH 8 42 (.string SX) rfl (by kernel_rfl) (by kernel_rfl) (by kernel_rfl) (exec_convert (x := .tmp 41) rfl (by kernel_rfl) hc6) hH6 ?_
  simp only [List.setIfInBounds_toArray, List.set_cons_zero, List.set_cons_succ]
  refine takeH 9 43 (.bool true) rfl (by kernel_rfl) (by kernel_rfl) (by kernel_rfl) (by kernel_rfl) (fun _ _ _ h => h) (by kernel_rfl) (fun w hw => by (go_simp)) hH6 ?_
  simp only [List.setIfInBounds_toArray, List.set_cons_zero, List.set_cons_succ]
  refine takeH 10 44 (.bool true) rfl (by kernel_rfl) (by kernel_rfl) (by kernel_rfl) (by kernel_rfl) (fun _ _ _ h => h) (by kernel_rfl) (fun w hw => by kernel_rfl) hH6 ?_
  simp only [List.setIfInBounds_toArray, List.set_cons_zero, List.set_cons_succ]
  refine takeH 11 45 (.bool true) rfl (by kernel_rfl) (by kernel_rfl) (by kernel_rfl) (by kernel_rfl) (fun _ _ _ h => h) (by kernel_rfl) (fun w hw => by kernel_rfl) hH6 ?_
  simp only [List.setIfInBounds_toArray, List.set_cons_zero, List.set_cons_succ]
  refine takeH 12 46 (.int .i64 (0)) rfl (by kernel_rfl) (by kernel_rfl) (by kernel_rfl) (by kernel_rfl) (fun _ _ _ h => h) (by kernel_rfl) (fun w hw => by kernel_rfl) hH6 ?_
  simp only [List.setIfInBounds_toArray, List.set_cons_zero, List.set_cons_succ]
  refine stepH_call 13 47 rfl (by kernel_rfl) (by kernel_rfl) (by kernel_rfl) 9 #[.tmp 46] #[27] (by kernel_rfl) (enters_of Try.func9 (by kernel_rfl) rfl) #[.int .i64 (0)] (by kernel_rfl) (num_any _ 0) ?_
  rintro e w9 ⟨rfl, hw⟩
  subst w9
  refine ⟨_, rfl, hH6, ?_⟩
  simp only [List.setIfInBounds_toArray, List.set_cons_zero, List.set_cons_succ]
  refine takeH 14 48 (.bool true) rfl (by kernel_rfl) (by kernel_rfl) (by kernel_rfl) (by kernel_rfl) (fun _ _ _ h => h) (by kernel_rfl) (fun w hw => by kernel_rfl) hH6 ?_
  simp only [List.setIfInBounds_toArray, List.set_cons_zero, List.set_cons_succ]
  refine takeH 15 49 (.bool true) rfl (by kernel_rfl) (by kernel_rfl) (by kernel_rfl) (by kernel_rfl) (fun _ _ _ h => h) (by kernel_rfl) (fun w hw => by kernel_rfl) hH6 ?_
  simp only [List.setIfInBounds_toArray, List.set_cons_zero, List.set_cons_succ]
  refine takeH 16 50 (.bool true) rfl (by kernel_rfl) (by kernel_rfl) (by kernel_rfl) (by kernel_rfl) (fun _ _ _ h => h) (by kernel_rfl) (fun w hw => by kernel_rfl) hH6 ?_
  simp only [List.setIfInBounds_toArray, List.set_cons_zero, List.set_cons_succ]
  refine takeH 17 51 (geo G I D) rfl (by kernel_rfl) (by kernel_rfl) (by kernel_rfl) (by kernel_rfl) (fun _ _ _ h => h) (by kernel_rfl) (fun w hw => by ((try dsimp only at hw); obtain ⟨-, ⟨g0, g1, g2⟩, -⟩ := hw; go_simp)) hH6 ?_
  simp only [List.setIfInBounds_toArray, List.set_cons_zero, List.set_cons_succ]
  refine takeH 18 52 (geo G I D) rfl (by kernel_rfl) (by kernel_rfl) (by kernel_rfl) (by kernel_rfl) (fun _ _ _ h => h) (by kernel_rfl) (fun w hw => by ((try dsimp only at hw); obtain ⟨⟨g0, g1, g2⟩, -, -⟩ := hw; go_simp)) hH6 ?_
  simp only [List.setIfInBounds_toArray, List.set_cons_zero, List.set_cons_succ]
  refine takeH 19 53 (.bool true) rfl (by kernel_rfl) (by kernel_rfl) (by kernel_rfl) (by kernel_rfl) (fun _ _ _ h => h) (by kernel_rfl) (fun w hw => by (go_simp)) hH6 ?_
  simp only [List.setIfInBounds_toArray, List.set_cons_zero, List.set_cons_succ]
  refine takeH 20 54 (.bool true) rfl (by kernel_rfl) (by kernel_rfl) (by kernel_rfl) (by kernel_rfl) (fun _ _ _ h => h) (by kernel_rfl) (fun w hw => by kernel_rfl) hH6 ?_
  simp only [List.setIfInBounds_toArray, List.set_cons_zero, List.set_cons_succ]
  refine takeH 21 2 (.bool true) rfl (by kernel_rfl) (by kernel_rfl) (by kernel_rfl) (by kernel_rfl) (fun _ _ _ h => h) (by kernel_rfl) (fun w hw => by kernel_rfl) hH6 ?_
  simp only [List.setIfInBounds_toArray, List.set_cons_zero, List.set_cons_succ]
  refine wpAnyH_done (by kernel_rfl) ?_ _
  go_wp2
  go_ret
  refine ⟨rfl, (HB1.out.alloc HB1.out.size _).drew.trans (HB6.out.mono ?_)⟩
  have := HB1.out.size
  simp
  omega

theorem packs_any (w : World) (G I D : Int) : Calls Try.prog 3 #[geo G I D] w fun e w' => e = .returned (.bool true) ∧ Below w.heap.size w w' := by
  cases hg : good G I D with
  | false => exact packs_no w G I D hg
  | true => exact packs_yes w G I D hg
end Go.Proofs.Ytebeejmpnkdllaa
