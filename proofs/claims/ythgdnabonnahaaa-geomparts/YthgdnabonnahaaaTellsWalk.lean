/-
  The document's example; GeomTells: where everything lies, of every geometry and number.
-/
import Derived.Test.YthgdnabonnahaaaTell3
namespace Go.Proofs.Ythgdnabonnahaaa
open Go Go.Proofs Go.RowKit Go.Shelf

set_option maxRecDepth 100000 in
theorem alive_any (w : World) : Calls Try.prog 6 #[] w fun e w' => e = .returned (.bool true) ∧ Below w.heap.size w w' := by
  have H16 : Hid (∀ w : World, Calls Try.prog 16 #[geo 1 1 8, .int .i64 0] w fun e w' => e = .returned (.tuple #[.int .i64 1, .bool true]) ∧ Below w.heap.size w w') := Hid.mk (fun w => head_any w 1 1 8 0)
  have H20 : Hid (∀ w : World, Calls Try.prog 20 #[geo 1 1 8, .int .i64 0] w fun e w' => e = .returned (.tuple #[.int .i64 3, .bool true]) ∧ Below w.heap.size w w') := Hid.mk (fun w => wdata_any w 1 1 8 0)
  have H8 := Hid.mk (fun w => check_yes w 1 1 8 (by decide))
  have H10 : Hid (∀ w : World, Calls Try.prog 10 #[geo 1 1 8] w fun e w' => e = .returned (.int .i64 11) ∧ Below w.heap.size w w') := Hid.mk (fun w => total_any w 1 1 8)
  go_enter Try.func6, Try.ntmps6
  go_wp2_with (first | (go_at_call 16; refine (H16.out _).mono ?_; rintro e w1 ⟨rfl, hB⟩; obtain ⟨hG1, hB1⟩ := behind hB; obtain ⟨c0, c1, c2⟩ := hG1.g3; have HG1 := Hid.mk hG1; have HB1 := Hid.mk hB1; clear hB hG1 hB1) | (go_at_call 20; refine (H20.out _).mono ?_; rintro e w1 ⟨rfl, hB⟩; obtain ⟨hG1, hB1⟩ := HG1.out.then HB1.out hB; clear c0 c1 c2 HG1 HB1; obtain ⟨c0, c1, c2⟩ := hG1.g3; have HG1 := Hid.mk hG1; have HB1 := Hid.mk hB1; clear hB hG1 hB1) | (go_at_call 8; refine (H8.out _).mono ?_; rintro e w1 ⟨rfl, hB⟩; obtain ⟨hG1, hB1⟩ := HG1.out.then HB1.out hB; clear c0 c1 c2 HG1 HB1; obtain ⟨c0, c1, c2⟩ := hG1.g3; have HG1 := Hid.mk hG1; have HB1 := Hid.mk hB1; clear hB hG1 hB1) | (go_at_call 10; refine (H10.out _).mono ?_; rintro e w1 ⟨rfl, hB⟩; obtain ⟨hG1, hB1⟩ := HG1.out.then HB1.out hB; clear c0 c1 c2 HG1 HB1; obtain ⟨c0, c1, c2⟩ := hG1.g3; have HG1 := Hid.mk hG1; have HB1 := Hid.mk hB1; clear hB hG1 hB1) | (go_at_call 9; refine (num_any _ _).mono ?_; rintro e w2 ⟨rfl, hw⟩; subst w2))
  go_ret
  exact ⟨rfl, HB1.out⟩


set_option maxRecDepth 100000 in
set_option maxHeartbeats 8000000 in
theorem tells_yes (w : World) (G I D n : Int) (hg : good G I D = true) : Calls Try.prog 3 #[geo G I D, .int .i64 n] w fun e w' => e = .returned (.bool true) ∧ Below w.heap.size w w' := by
    have HG := Hid.mk hg
    clear hg
    go_enter Try.func3, Try.ntmps3
    go_wp2_with (first | (go_at_call 6; refine (alive_any _).mono ?_; rintro e w1 ⟨rfl, hB⟩; obtain ⟨hG1, hB1⟩ := behind hB; obtain ⟨c0, c1, c2⟩ := hG1.g3; have HG1 := Hid.mk hG1; have HB1 := Hid.mk hB1; clear hB hG1 hB1) | (go_at_call 7; refine (good_is _ G I D true HG.out).mono ?_; rintro e w1 ⟨rfl, hB⟩; obtain ⟨hG1, hB1⟩ := HG1.out.then HB1.out hB; clear c0 c1 c2 HG1 HB1; obtain ⟨c0, c1, c2⟩ := hG1.g3; have HG1 := Hid.mk hG1; have HB1 := Hid.mk hB1; clear hB hG1 hB1) | (go_at_call 8; refine (check_yes _ G I D HG.out).mono ?_; rintro e w1 ⟨rfl, hB⟩; obtain ⟨hG1, hB1⟩ := HG1.out.then HB1.out hB; clear c0 c1 c2 HG1 HB1; obtain ⟨c0, c1, c2⟩ := hG1.g3; have HG1 := Hid.mk hG1; have HB1 := Hid.mk hB1; clear hB hG1 hB1))
    obtain ⟨W, hW⟩ : ∃ W, W = w1 := ⟨_, rfl⟩
    have HK : Hid (∀ W', Below w1.heap.size w1.drew W' → GAt w.heap.size G I D W') := Hid.mk (fun W' hB => GAt.below (W := w1.drew) HG1.out hB HG1.out.lt)
    have HA := Hid.mk (Below.refl w1.heap.size w1.drew)
    clear c0 c1 c2 hW W
    refine wp_region_held_drew (S := G3 w.heap.size G I D) (by kernel_rfl) (HK.out _ (Below.refl _ _)).g3 (fun hH => ?_)
    change wpAnyH Try.prog Region.Mode.any _ _ _ 39 _ _ _
    refine takeH 0 23 (.bool true) rfl (by kernel_rfl) (by kernel_rfl) (by kernel_rfl) (by kernel_rfl) (fun _ _ _ h => h) (by kernel_rfl) (fun w hw => by kernel_rfl) hH ?_
    simp only [List.setIfInBounds_toArray, List.set_cons_zero, List.set_cons_succ]
    refine takeH 1 24 (.bool false) rfl (by kernel_rfl) (by kernel_rfl) (by kernel_rfl) (by kernel_rfl) (fun _ _ _ h => h) (by kernel_rfl) (fun w hw => by (try dsimp only at hw); go_simp) hH ?_
    simp only [List.setIfInBounds_toArray, List.set_cons_zero, List.set_cons_succ]
    refine takeH 2 25 (.bool false) rfl (by kernel_rfl) (by kernel_rfl) (by kernel_rfl) (by kernel_rfl) (fun _ _ _ h => h) (by kernel_rfl) (fun w hw => by kernel_rfl) hH ?_
    simp only [List.setIfInBounds_toArray, List.set_cons_zero, List.set_cons_succ]
    refine takeH 3 26 (.int .i64 (0)) rfl (by kernel_rfl) (by kernel_rfl) (by kernel_rfl) (by kernel_rfl) (fun _ _ _ h => h) (by kernel_rfl) (fun w hw => by kernel_rfl) hH ?_
    simp only [List.setIfInBounds_toArray, List.set_cons_zero, List.set_cons_succ]
    refine takeH 6 29 (.bool true) rfl (by kernel_rfl) (by kernel_rfl) (by kernel_rfl) (by kernel_rfl) (fun _ _ _ h => h) (by kernel_rfl) (fun w hw => by kernel_rfl) hH ?_
    simp only [List.setIfInBounds_toArray, List.set_cons_zero, List.set_cons_succ]
    refine stepH_call 4 27 rfl (by kernel_rfl) (by kernel_rfl) (by kernel_rfl) 9 #[.tmp 26] #[26] (by kernel_rfl) (enters_of Try.func9 (by kernel_rfl) rfl) #[.int .i64 (0)] (by kernel_rfl) (num_any _ 0) ?_
    rintro e w5 ⟨rfl, hw⟩
    subst w5
    refine ⟨_, rfl, hH, ?_⟩
    simp only [List.setIfInBounds_toArray, List.set_cons_zero, List.set_cons_succ]
    refine takeH 5 28 (.bool true) rfl (by kernel_rfl) (by kernel_rfl) (by kernel_rfl) (by kernel_rfl) (fun _ _ _ h => h) (by kernel_rfl) (fun w hw => by (try dsimp only at hw); go_simp) hH ?_
    simp only [List.setIfInBounds_toArray, List.set_cons_zero, List.set_cons_succ]
    refine takeH 7 30 (.bool false) rfl (by kernel_rfl) (by kernel_rfl) (by kernel_rfl) (by kernel_rfl) (fun _ _ _ h => h) (by kernel_rfl) (fun w hw => by (try dsimp only at hw); go_simp) hH ?_
    simp only [List.setIfInBounds_toArray, List.set_cons_zero, List.set_cons_succ]
    refine takeH 8 31 (.bool false) rfl (by kernel_rfl) (by kernel_rfl) (by kernel_rfl) (by kernel_rfl) (fun _ _ _ h => h) (by kernel_rfl) (fun w hw => by kernel_rfl) hH ?_
    simp only [List.setIfInBounds_toArray, List.set_cons_zero, List.set_cons_succ]
    refine takeH 9 32 (.bool false) rfl (by kernel_rfl) (by kernel_rfl) (by kernel_rfl) (by kernel_rfl) (fun _ _ _ h => h) (by kernel_rfl) (fun w hw => by kernel_rfl) hH ?_
    simp only [List.setIfInBounds_toArray, List.set_cons_zero, List.set_cons_succ]
    refine takeH 10 33 (.bool true) rfl (by kernel_rfl) (by kernel_rfl) (by kernel_rfl) (by kernel_rfl) (fun _ _ _ h => h) (by kernel_rfl) (fun w hw => by kernel_rfl) hH ?_
    simp only [List.setIfInBounds_toArray, List.set_cons_zero, List.set_cons_succ]
    refine takeH 11 34 (.bool false) rfl (by kernel_rfl) (by kernel_rfl) (by kernel_rfl) (by kernel_rfl) (fun _ _ _ h => h) (by kernel_rfl) (fun w hw => by (try dsimp only at hw); go_simp) hH ?_
    simp only [List.setIfInBounds_toArray, List.set_cons_zero, List.set_cons_succ]
    refine takeH 12 35 (.bool false) rfl (by kernel_rfl) (by kernel_rfl) (by kernel_rfl) (by kernel_rfl) (fun _ _ _ h => h) (by kernel_rfl) (fun w hw => by kernel_rfl) hH ?_
    simp only [List.setIfInBounds_toArray, List.set_cons_zero, List.set_cons_succ]
    refine skipH 13 36 rfl (by kernel_rfl) (by kernel_rfl) (by kernel_rfl) (by kernel_rfl) (fun _ _ _ h => h) (by kernel_rfl) hH ?_
    simp only [List.setIfInBounds_toArray, List.set_cons_zero, List.set_cons_succ]
    refine skipH 14 37 rfl (by kernel_rfl) (by kernel_rfl) (by kernel_rfl) (by kernel_rfl) (fun _ _ _ h => h) (by kernel_rfl) hH ?_
    simp only [List.setIfInBounds_toArray, List.set_cons_zero, List.set_cons_succ]
    refine skipH 15 38 rfl (by kernel_rfl) (by kernel_rfl) (by kernel_rfl) (by kernel_rfl) (fun _ _ _ h => h) (by kernel_rfl) hH ?_
    simp only [List.setIfInBounds_toArray, List.set_cons_zero, List.set_cons_succ]
    refine takeH 16 39 (.bool false) rfl (by kernel_rfl) (by kernel_rfl) (by kernel_rfl) (by kernel_rfl) (fun _ _ _ h => h) (by kernel_rfl) (fun w hw => by kernel_rfl) hH ?_
    simp only [List.setIfInBounds_toArray, List.set_cons_zero, List.set_cons_succ]
    refine takeH 17 40 (.bool false) rfl (by kernel_rfl) (by kernel_rfl) (by kernel_rfl) (by kernel_rfl) (fun _ _ _ h => h) (by kernel_rfl) (fun w hw => by kernel_rfl) hH ?_
    simp only [List.setIfInBounds_toArray, List.set_cons_zero, List.set_cons_succ]
    refine takeH 18 41 (.bool false) rfl (by kernel_rfl) (by kernel_rfl) (by kernel_rfl) (by kernel_rfl) (fun _ _ _ h => h) (by kernel_rfl) (fun w hw => by kernel_rfl) hH ?_
    simp only [List.setIfInBounds_toArray, List.set_cons_zero, List.set_cons_succ]
    refine takeH 19 42 (geo G I D) rfl (by kernel_rfl) (by kernel_rfl) (by kernel_rfl) (by kernel_rfl) (fun _ _ _ h => h) (by kernel_rfl) (fun w hw => by (try dsimp only at hw); go_simp) hH ?_
    simp only [List.setIfInBounds_toArray, List.set_cons_zero, List.set_cons_succ]
    refine takeH 21 44 (geo G I D) rfl (by kernel_rfl) (by kernel_rfl) (by kernel_rfl) (by kernel_rfl) (fun _ _ _ h => h) (by kernel_rfl) (fun w hw => by (try dsimp only at hw); go_simp) hH ?_
    simp only [List.setIfInBounds_toArray, List.set_cons_zero, List.set_cons_succ]
    refine stepH_call 20 43 rfl (by kernel_rfl) (by kernel_rfl) (by kernel_rfl) 10 #[.tmp 42] #[23] (by kernel_rfl) (enters_of Try.func10 (by kernel_rfl) rfl) #[geo G I D] (by kernel_rfl) (total_any _ G I D) ?_
    rintro e w5 ⟨rfl, hB5⟩
    have HA5 := Hid.mk (HA.out.trans (hB5.mono HA.out.size))
    clear HA hB5
    have HA := HA5
    clear HA5 hH
    have hH := (HK.out w5 HA.out).g3
    refine ⟨_, rfl, hH, ?_⟩
    simp only [List.setIfInBounds_toArray, List.set_cons_zero, List.set_cons_succ]
    refine stepH_call 22 45 rfl (by kernel_rfl) (by kernel_rfl) (by kernel_rfl) 11 #[.tmp 44] #[23] (by kernel_rfl) (enters_of Try.func11 (by kernel_rfl) rfl) #[geo G I D] (by kernel_rfl) (rtotal_any _ G I D) ?_
    rintro e w5 ⟨rfl, hB5⟩
    have HA5 := Hid.mk (HA.out.trans (hB5.mono HA.out.size))
    clear HA hB5
    have HA := HA5
    clear HA5 hH
    have hH := (HK.out w5 HA.out).g3
    refine ⟨_, rfl, hH, ?_⟩
    simp only [List.setIfInBounds_toArray, List.set_cons_zero, List.set_cons_succ]
    refine takeH 23 46 (.bool false) rfl (by kernel_rfl) (by kernel_rfl) (by kernel_rfl) (by kernel_rfl) (fun _ _ _ h => h) (by kernel_rfl) (fun w hw => by (try dsimp only at hw); go_simp) hH ?_
    simp only [List.setIfInBounds_toArray, List.set_cons_zero, List.set_cons_succ]
    refine takeH 24 47 (.bool false) rfl (by kernel_rfl) (by kernel_rfl) (by kernel_rfl) (by kernel_rfl) (fun _ _ _ h => h) (by kernel_rfl) (fun w hw => by kernel_rfl) hH ?_
    simp only [List.setIfInBounds_toArray, List.set_cons_zero, List.set_cons_succ]
    refine takeH 25 48 (.bool false) rfl (by kernel_rfl) (by kernel_rfl) (by kernel_rfl) (by kernel_rfl) (fun _ _ _ h => h) (by kernel_rfl) (fun w hw => by kernel_rfl) hH ?_
    simp only [List.setIfInBounds_toArray, List.set_cons_zero, List.set_cons_succ]
    refine takeH 26 49 (geo G I D) rfl (by kernel_rfl) (by kernel_rfl) (by kernel_rfl) (by kernel_rfl) (fun _ _ _ h => h) (by kernel_rfl) (fun w hw => by (try dsimp only at hw); go_simp) hH ?_
    simp only [List.setIfInBounds_toArray, List.set_cons_zero, List.set_cons_succ]
    refine takeH 28 51 (geo G I D) rfl (by kernel_rfl) (by kernel_rfl) (by kernel_rfl) (by kernel_rfl) (fun _ _ _ h => h) (by kernel_rfl) (fun w hw => by (try dsimp only at hw); go_simp) hH ?_
    simp only [List.setIfInBounds_toArray, List.set_cons_zero, List.set_cons_succ]
    refine stepH_call 27 50 rfl (by kernel_rfl) (by kernel_rfl) (by kernel_rfl) 12 #[.tmp 49] #[23] (by kernel_rfl) (enters_of Try.func12 (by kernel_rfl) rfl) #[geo G I D] (by kernel_rfl) (inodes_any _ G I D) ?_
    rintro e w5 ⟨rfl, hB5⟩
    have HA5 := Hid.mk (HA.out.trans (hB5.mono HA.out.size))
    clear HA hB5
    have HA := HA5
    clear HA5 hH
    have hH := (HK.out w5 HA.out).g3
    refine ⟨_, rfl, hH, ?_⟩
    simp only [List.setIfInBounds_toArray, List.set_cons_zero, List.set_cons_succ]
    refine stepH_call 29 52 rfl (by kernel_rfl) (by kernel_rfl) (by kernel_rfl) 13 #[.tmp 51] #[23] (by kernel_rfl) (enters_of Try.func13 (by kernel_rfl) rfl) #[geo G I D] (by kernel_rfl) (rinodes_any _ G I D) ?_
    rintro e w5 ⟨rfl, hB5⟩
    have HA5 := Hid.mk (HA.out.trans (hB5.mono HA.out.size))
    clear HA hB5
    have HA := HA5
    clear HA5 hH
    have hH := (HK.out w5 HA.out).g3
    refine ⟨_, rfl, hH, ?_⟩
    simp only [List.setIfInBounds_toArray, List.set_cons_zero, List.set_cons_succ]
    refine takeH 30 53 (.bool false) rfl (by kernel_rfl) (by kernel_rfl) (by kernel_rfl) (by kernel_rfl) (fun _ _ _ h => h) (by kernel_rfl) (fun w hw => by (try dsimp only at hw); go_simp) hH ?_
    simp only [List.setIfInBounds_toArray, List.set_cons_zero, List.set_cons_succ]
    refine takeH 31 54 (.bool false) rfl (by kernel_rfl) (by kernel_rfl) (by kernel_rfl) (by kernel_rfl) (fun _ _ _ h => h) (by kernel_rfl) (fun w hw => by kernel_rfl) hH ?_
    simp only [List.setIfInBounds_toArray, List.set_cons_zero, List.set_cons_succ]
    refine takeH 32 55 (.bool false) rfl (by kernel_rfl) (by kernel_rfl) (by kernel_rfl) (by kernel_rfl) (fun _ _ _ h => h) (by kernel_rfl) (fun w hw => by kernel_rfl) hH ?_
    simp only [List.setIfInBounds_toArray, List.set_cons_zero, List.set_cons_succ]
    refine takeH 33 56 (geo G I D) rfl (by kernel_rfl) (by kernel_rfl) (by kernel_rfl) (by kernel_rfl) (fun _ _ _ h => h) (by kernel_rfl) (fun w hw => by (try dsimp only at hw); go_simp) hH ?_
    simp only [List.setIfInBounds_toArray, List.set_cons_zero, List.set_cons_succ]
    refine takeH 35 58 (geo G I D) rfl (by kernel_rfl) (by kernel_rfl) (by kernel_rfl) (by kernel_rfl) (fun _ _ _ h => h) (by kernel_rfl) (fun w hw => by (try dsimp only at hw); go_simp) hH ?_
    simp only [List.setIfInBounds_toArray, List.set_cons_zero, List.set_cons_succ]
    refine stepH_call 34 57 rfl (by kernel_rfl) (by kernel_rfl) (by kernel_rfl) 14 #[.tmp 56] #[23] (by kernel_rfl) (enters_of Try.func14 (by kernel_rfl) rfl) #[geo G I D] (by kernel_rfl) (blocks_any _ G I D) ?_
    rintro e w5 ⟨rfl, hB5⟩
    have HA5 := Hid.mk (HA.out.trans (hB5.mono HA.out.size))
    clear HA hB5
    have HA := HA5
    clear HA5 hH
    have hH := (HK.out w5 HA.out).g3
    refine ⟨_, rfl, hH, ?_⟩
    simp only [List.setIfInBounds_toArray, List.set_cons_zero, List.set_cons_succ]
    refine stepH_call 36 59 rfl (by kernel_rfl) (by kernel_rfl) (by kernel_rfl) 15 #[.tmp 58] #[23] (by kernel_rfl) (enters_of Try.func15 (by kernel_rfl) rfl) #[geo G I D] (by kernel_rfl) (rblocks_any _ G I D) ?_
    rintro e w5 ⟨rfl, hB5⟩
    have HA5 := Hid.mk (HA.out.trans (hB5.mono HA.out.size))
    clear HA hB5
    have HA := HA5
    clear HA5 hH
    have hH := (HK.out w5 HA.out).g3
    refine ⟨_, rfl, hH, ?_⟩
    simp only [List.setIfInBounds_toArray, List.set_cons_zero, List.set_cons_succ]
    refine takeH 37 60 (.bool false) rfl (by kernel_rfl) (by kernel_rfl) (by kernel_rfl) (by kernel_rfl) (fun _ _ _ h => h) (by kernel_rfl) (fun w hw => by (try dsimp only at hw); go_simp) hH ?_
    simp only [List.setIfInBounds_toArray, List.set_cons_zero, List.set_cons_succ]
    refine takeH 38 61 (.bool false) rfl (by kernel_rfl) (by kernel_rfl) (by kernel_rfl) (by kernel_rfl) (fun _ _ _ h => h) (by kernel_rfl) (fun w hw => by kernel_rfl) hH ?_
    simp only [List.setIfInBounds_toArray, List.set_cons_zero, List.set_cons_succ]
    refine wpAnyH_done (by kernel_rfl) ?_ _
    obtain ⟨c0, c1, c2⟩ := hH
    have HG2 := Hid.mk (HK.out _ HA.out)
    have HB2 := Hid.mk (HB1.out.drew.trans (HA.out.mono HB1.out.size))
    clear HK HA HG1 HB1
    have HG1 := HG2
    have HB1 := HB2
    clear HG2 HB2
    go_wp2_with (first | (go_at_call 16; refine (head_any _ G I D n).mono ?_; rintro e w1 ⟨rfl, hB⟩; obtain ⟨hG1, hB1⟩ := HG1.out.then HB1.out hB; clear c0 c1 c2 HG1 HB1; obtain ⟨c0, c1, c2⟩ := hG1.g3; have HG1 := Hid.mk hG1; have HB1 := Hid.mk hB1; clear hB hG1 hB1) | (go_at_call 17; refine (rhead_any _ G I D n).mono ?_; rintro e w1 ⟨rfl, hB⟩; obtain ⟨hG1, hB1⟩ := HG1.out.then HB1.out hB; clear c0 c1 c2 HG1 HB1; obtain ⟨c0, c1, c2⟩ := hG1.g3; have HG1 := Hid.mk hG1; have HB1 := Hid.mk hB1; clear hB hG1 hB1) | (go_at_call 18; refine (inodeat_any _ G I D n).mono ?_; rintro e w1 ⟨rfl, hB⟩; obtain ⟨hG1, hB1⟩ := HG1.out.then HB1.out hB; clear c0 c1 c2 HG1 HB1; obtain ⟨c0, c1, c2⟩ := hG1.g3; have HG1 := Hid.mk hG1; have HB1 := Hid.mk hB1; clear hB hG1 hB1) | (go_at_call 19; refine (rinodeat_any _ G I D n).mono ?_; rintro e w1 ⟨rfl, hB⟩; obtain ⟨hG1, hB1⟩ := HG1.out.then HB1.out hB; clear c0 c1 c2 HG1 HB1; obtain ⟨c0, c1, c2⟩ := hG1.g3; have HG1 := Hid.mk hG1; have HB1 := Hid.mk hB1; clear hB hG1 hB1) | (go_at_call 20; refine (wdata_any _ G I D n).mono ?_; rintro e w1 ⟨rfl, hB⟩; obtain ⟨hG1, hB1⟩ := HG1.out.then HB1.out hB; clear c0 c1 c2 HG1 HB1; obtain ⟨c0, c1, c2⟩ := hG1.g3; have HG1 := Hid.mk hG1; have HB1 := Hid.mk hB1; clear hB hG1 hB1) | (go_at_call 21; refine (rdata_any _ G I D n).mono ?_; rintro e w1 ⟨rfl, hB⟩; obtain ⟨hG1, hB1⟩ := HG1.out.then HB1.out hB; clear c0 c1 c2 HG1 HB1; obtain ⟨c0, c1, c2⟩ := hG1.g3; have HG1 := Hid.mk hG1; have HB1 := Hid.mk hB1; clear hB hG1 hB1) | (go_at_call 22; refine (wdataof_any _ G I D n).mono ?_; rintro e w1 ⟨rfl, hB⟩; obtain ⟨hG1, hB1⟩ := HG1.out.then HB1.out hB; clear c0 c1 c2 HG1 HB1; obtain ⟨c0, c1, c2⟩ := hG1.g3; have HG1 := Hid.mk hG1; have HB1 := Hid.mk hB1; clear hB hG1 hB1) | (go_at_call 23; refine (rdataof_any _ G I D n).mono ?_; rintro e w1 ⟨rfl, hB⟩; obtain ⟨hG1, hB1⟩ := HG1.out.then HB1.out hB; clear c0 c1 c2 HG1 HB1; obtain ⟨c0, c1, c2⟩ := hG1.g3; have HG1 := Hid.mk hG1; have HB1 := Hid.mk hB1; clear hB hG1 hB1) | (go_at_call 24; refine (group_any _ G I D n).mono ?_; rintro e w1 ⟨rfl, hB⟩; obtain ⟨hG1, hB1⟩ := HG1.out.then HB1.out hB; clear c0 c1 c2 HG1 HB1; obtain ⟨c0, c1, c2⟩ := hG1.g3; have HG1 := Hid.mk hG1; have HB1 := Hid.mk hB1; clear hB hG1 hB1) | (go_at_call 25; refine (rgroup_any _ G I D n).mono ?_; rintro e w1 ⟨rfl, hB⟩; obtain ⟨hG1, hB1⟩ := HG1.out.then HB1.out hB; clear c0 c1 c2 HG1 HB1; obtain ⟨c0, c1, c2⟩ := hG1.g3; have HG1 := Hid.mk hG1; have HB1 := Hid.mk hB1; clear hB hG1 hB1))
    go_ret
    exact ⟨rfl, HB1.out⟩

set_option maxRecDepth 100000 in
set_option maxHeartbeats 8000000 in
theorem tells_no (w : World) (G I D n : Int) (hg : good G I D = false) : Calls Try.prog 3 #[geo G I D, .int .i64 n] w fun e w' => e = .returned (.bool true) ∧ Below w.heap.size w w' := by
    have HG := Hid.mk hg
    clear hg
    go_enter Try.func3, Try.ntmps3
    go_wp2_with (first | (go_at_call 6; refine (alive_any _).mono ?_; rintro e w1 ⟨rfl, hB⟩; obtain ⟨hG1, hB1⟩ := behind hB; obtain ⟨c0, c1, c2⟩ := hG1.g3; have HG1 := Hid.mk hG1; have HB1 := Hid.mk hB1; clear hB hG1 hB1) | (go_at_call 7; refine (good_is _ G I D false HG.out).mono ?_; rintro e w1 ⟨rfl, hB⟩; obtain ⟨hG1, hB1⟩ := HG1.out.then HB1.out hB; clear c0 c1 c2 HG1 HB1; obtain ⟨c0, c1, c2⟩ := hG1.g3; have HG1 := Hid.mk hG1; have HB1 := Hid.mk hB1; clear hB hG1 hB1) | (go_at_call 8; refine (check_no _ G I D HG.out).mono ?_; rintro e w1 ⟨rfl, hB⟩; obtain ⟨hG1, hB1⟩ := HG1.out.then HB1.out hB; clear c0 c1 c2 HG1 HB1; obtain ⟨c0, c1, c2⟩ := hG1.g3; have HG1 := Hid.mk hG1; have HB1 := Hid.mk hB1; clear hB hG1 hB1))
    obtain ⟨W, hW⟩ : ∃ W, W = w1 := ⟨_, rfl⟩
    have HK : Hid (∀ W', Below w1.heap.size w1.drew W' → GAt w.heap.size G I D W') := Hid.mk (fun W' hB => GAt.below (W := w1.drew) HG1.out hB HG1.out.lt)
    have HA := Hid.mk (Below.refl w1.heap.size w1.drew)
    clear c0 c1 c2 hW W
    refine wp_region_held_drew (S := G3 w.heap.size G I D) (by kernel_rfl) (HK.out _ (Below.refl _ _)).g3 (fun hH => ?_)
    change wpAnyH Try.prog Region.Mode.any _ _ _ 39 _ _ _
    refine takeH 0 23 (.bool true) rfl (by kernel_rfl) (by kernel_rfl) (by kernel_rfl) (by kernel_rfl) (fun _ _ _ h => h) (by kernel_rfl) (fun w hw => by kernel_rfl) hH ?_
    simp only [List.setIfInBounds_toArray, List.set_cons_zero, List.set_cons_succ]
    refine takeH 1 24 (.bool false) rfl (by kernel_rfl) (by kernel_rfl) (by kernel_rfl) (by kernel_rfl) (fun _ _ _ h => h) (by kernel_rfl) (fun w hw => by (try dsimp only at hw); go_simp) hH ?_
    simp only [List.setIfInBounds_toArray, List.set_cons_zero, List.set_cons_succ]
    refine takeH 2 25 (.bool false) rfl (by kernel_rfl) (by kernel_rfl) (by kernel_rfl) (by kernel_rfl) (fun _ _ _ h => h) (by kernel_rfl) (fun w hw => by kernel_rfl) hH ?_
    simp only [List.setIfInBounds_toArray, List.set_cons_zero, List.set_cons_succ]
    refine takeH 3 26 (.int .i64 (1)) rfl (by kernel_rfl) (by kernel_rfl) (by kernel_rfl) (by kernel_rfl) (fun _ _ _ h => h) (by kernel_rfl) (fun w hw => by kernel_rfl) hH ?_
    simp only [List.setIfInBounds_toArray, List.set_cons_zero, List.set_cons_succ]
    refine takeH 6 29 (.bool false) rfl (by kernel_rfl) (by kernel_rfl) (by kernel_rfl) (by kernel_rfl) (fun _ _ _ h => h) (by kernel_rfl) (fun w hw => by kernel_rfl) hH ?_
    simp only [List.setIfInBounds_toArray, List.set_cons_zero, List.set_cons_succ]
    refine stepH_call 4 27 rfl (by kernel_rfl) (by kernel_rfl) (by kernel_rfl) 9 #[.tmp 26] #[26] (by kernel_rfl) (enters_of Try.func9 (by kernel_rfl) rfl) #[.int .i64 (1)] (by kernel_rfl) (num_any _ 1) ?_
    rintro e w5 ⟨rfl, hw⟩
    subst w5
    refine ⟨_, rfl, hH, ?_⟩
    simp only [List.setIfInBounds_toArray, List.set_cons_zero, List.set_cons_succ]
    refine takeH 5 28 (.bool false) rfl (by kernel_rfl) (by kernel_rfl) (by kernel_rfl) (by kernel_rfl) (fun _ _ _ h => h) (by kernel_rfl) (fun w hw => by (try dsimp only at hw); go_simp) hH ?_
    simp only [List.setIfInBounds_toArray, List.set_cons_zero, List.set_cons_succ]
    refine takeH 7 30 (.bool false) rfl (by kernel_rfl) (by kernel_rfl) (by kernel_rfl) (by kernel_rfl) (fun _ _ _ h => h) (by kernel_rfl) (fun w hw => by (try dsimp only at hw); go_simp) hH ?_
    simp only [List.setIfInBounds_toArray, List.set_cons_zero, List.set_cons_succ]
    refine takeH 8 31 (.bool false) rfl (by kernel_rfl) (by kernel_rfl) (by kernel_rfl) (by kernel_rfl) (fun _ _ _ h => h) (by kernel_rfl) (fun w hw => by kernel_rfl) hH ?_
    simp only [List.setIfInBounds_toArray, List.set_cons_zero, List.set_cons_succ]
    refine takeH 9 32 (.bool false) rfl (by kernel_rfl) (by kernel_rfl) (by kernel_rfl) (by kernel_rfl) (fun _ _ _ h => h) (by kernel_rfl) (fun w hw => by kernel_rfl) hH ?_
    simp only [List.setIfInBounds_toArray, List.set_cons_zero, List.set_cons_succ]
    refine takeH 10 33 (.bool false) rfl (by kernel_rfl) (by kernel_rfl) (by kernel_rfl) (by kernel_rfl) (fun _ _ _ h => h) (by kernel_rfl) (fun w hw => by kernel_rfl) hH ?_
    simp only [List.setIfInBounds_toArray, List.set_cons_zero, List.set_cons_succ]
    refine takeH 11 34 (.bool true) rfl (by kernel_rfl) (by kernel_rfl) (by kernel_rfl) (by kernel_rfl) (fun _ _ _ h => h) (by kernel_rfl) (fun w hw => by (try dsimp only at hw); go_simp) hH ?_
    simp only [List.setIfInBounds_toArray, List.set_cons_zero, List.set_cons_succ]
    refine takeH 12 35 (.bool true) rfl (by kernel_rfl) (by kernel_rfl) (by kernel_rfl) (by kernel_rfl) (fun _ _ _ h => h) (by kernel_rfl) (fun w hw => by kernel_rfl) hH ?_
    simp only [List.setIfInBounds_toArray, List.set_cons_zero, List.set_cons_succ]
    refine takeH 13 36 (.int .i64 (1)) rfl (by kernel_rfl) (by kernel_rfl) (by kernel_rfl) (by kernel_rfl) (fun _ _ _ h => h) (by kernel_rfl) (fun w hw => by kernel_rfl) hH ?_
    simp only [List.setIfInBounds_toArray, List.set_cons_zero, List.set_cons_succ]
    refine stepH_call 14 37 rfl (by kernel_rfl) (by kernel_rfl) (by kernel_rfl) 9 #[.tmp 36] #[26] (by kernel_rfl) (enters_of Try.func9 (by kernel_rfl) rfl) #[.int .i64 (1)] (by kernel_rfl) (num_any _ 1) ?_
    rintro e w5 ⟨rfl, hw⟩
    subst w5
    refine ⟨_, rfl, hH, ?_⟩
    simp only [List.setIfInBounds_toArray, List.set_cons_zero, List.set_cons_succ]
    refine takeH 15 38 (.bool false) rfl (by kernel_rfl) (by kernel_rfl) (by kernel_rfl) (by kernel_rfl) (fun _ _ _ h => h) (by kernel_rfl) (fun w hw => by (try dsimp only at hw); go_simp) hH ?_
    simp only [List.setIfInBounds_toArray, List.set_cons_zero, List.set_cons_succ]
    refine takeH 16 39 (.bool false) rfl (by kernel_rfl) (by kernel_rfl) (by kernel_rfl) (by kernel_rfl) (fun _ _ _ h => h) (by kernel_rfl) (fun w hw => by kernel_rfl) hH ?_
    simp only [List.setIfInBounds_toArray, List.set_cons_zero, List.set_cons_succ]
    refine takeH 17 40 (.bool false) rfl (by kernel_rfl) (by kernel_rfl) (by kernel_rfl) (by kernel_rfl) (fun _ _ _ h => h) (by kernel_rfl) (fun w hw => by kernel_rfl) hH ?_
    simp only [List.setIfInBounds_toArray, List.set_cons_zero, List.set_cons_succ]
    refine takeH 18 41 (.bool false) rfl (by kernel_rfl) (by kernel_rfl) (by kernel_rfl) (by kernel_rfl) (fun _ _ _ h => h) (by kernel_rfl) (fun w hw => by kernel_rfl) hH ?_
    simp only [List.setIfInBounds_toArray, List.set_cons_zero, List.set_cons_succ]
    refine takeH 19 42 (geo G I D) rfl (by kernel_rfl) (by kernel_rfl) (by kernel_rfl) (by kernel_rfl) (fun _ _ _ h => h) (by kernel_rfl) (fun w hw => by (try dsimp only at hw); go_simp) hH ?_
    simp only [List.setIfInBounds_toArray, List.set_cons_zero, List.set_cons_succ]
    refine takeH 21 44 (geo G I D) rfl (by kernel_rfl) (by kernel_rfl) (by kernel_rfl) (by kernel_rfl) (fun _ _ _ h => h) (by kernel_rfl) (fun w hw => by (try dsimp only at hw); go_simp) hH ?_
    simp only [List.setIfInBounds_toArray, List.set_cons_zero, List.set_cons_succ]
    refine stepH_call 20 43 rfl (by kernel_rfl) (by kernel_rfl) (by kernel_rfl) 10 #[.tmp 42] #[23] (by kernel_rfl) (enters_of Try.func10 (by kernel_rfl) rfl) #[geo G I D] (by kernel_rfl) (total_any _ G I D) ?_
    rintro e w5 ⟨rfl, hB5⟩
    have HA5 := Hid.mk (HA.out.trans (hB5.mono HA.out.size))
    clear HA hB5
    have HA := HA5
    clear HA5 hH
    have hH := (HK.out w5 HA.out).g3
    refine ⟨_, rfl, hH, ?_⟩
    simp only [List.setIfInBounds_toArray, List.set_cons_zero, List.set_cons_succ]
    refine stepH_call 22 45 rfl (by kernel_rfl) (by kernel_rfl) (by kernel_rfl) 11 #[.tmp 44] #[23] (by kernel_rfl) (enters_of Try.func11 (by kernel_rfl) rfl) #[geo G I D] (by kernel_rfl) (rtotal_any _ G I D) ?_
    rintro e w5 ⟨rfl, hB5⟩
    have HA5 := Hid.mk (HA.out.trans (hB5.mono HA.out.size))
    clear HA hB5
    have HA := HA5
    clear HA5 hH
    have hH := (HK.out w5 HA.out).g3
    refine ⟨_, rfl, hH, ?_⟩
    simp only [List.setIfInBounds_toArray, List.set_cons_zero, List.set_cons_succ]
    refine takeH 23 46 (.bool false) rfl (by kernel_rfl) (by kernel_rfl) (by kernel_rfl) (by kernel_rfl) (fun _ _ _ h => h) (by kernel_rfl) (fun w hw => by (try dsimp only at hw); go_simp) hH ?_
    simp only [List.setIfInBounds_toArray, List.set_cons_zero, List.set_cons_succ]
    refine takeH 24 47 (.bool false) rfl (by kernel_rfl) (by kernel_rfl) (by kernel_rfl) (by kernel_rfl) (fun _ _ _ h => h) (by kernel_rfl) (fun w hw => by kernel_rfl) hH ?_
    simp only [List.setIfInBounds_toArray, List.set_cons_zero, List.set_cons_succ]
    refine takeH 25 48 (.bool false) rfl (by kernel_rfl) (by kernel_rfl) (by kernel_rfl) (by kernel_rfl) (fun _ _ _ h => h) (by kernel_rfl) (fun w hw => by kernel_rfl) hH ?_
    simp only [List.setIfInBounds_toArray, List.set_cons_zero, List.set_cons_succ]
    refine takeH 26 49 (geo G I D) rfl (by kernel_rfl) (by kernel_rfl) (by kernel_rfl) (by kernel_rfl) (fun _ _ _ h => h) (by kernel_rfl) (fun w hw => by (try dsimp only at hw); go_simp) hH ?_
    simp only [List.setIfInBounds_toArray, List.set_cons_zero, List.set_cons_succ]
    refine takeH 28 51 (geo G I D) rfl (by kernel_rfl) (by kernel_rfl) (by kernel_rfl) (by kernel_rfl) (fun _ _ _ h => h) (by kernel_rfl) (fun w hw => by (try dsimp only at hw); go_simp) hH ?_
    simp only [List.setIfInBounds_toArray, List.set_cons_zero, List.set_cons_succ]
    refine stepH_call 27 50 rfl (by kernel_rfl) (by kernel_rfl) (by kernel_rfl) 12 #[.tmp 49] #[23] (by kernel_rfl) (enters_of Try.func12 (by kernel_rfl) rfl) #[geo G I D] (by kernel_rfl) (inodes_any _ G I D) ?_
    rintro e w5 ⟨rfl, hB5⟩
    have HA5 := Hid.mk (HA.out.trans (hB5.mono HA.out.size))
    clear HA hB5
    have HA := HA5
    clear HA5 hH
    have hH := (HK.out w5 HA.out).g3
    refine ⟨_, rfl, hH, ?_⟩
    simp only [List.setIfInBounds_toArray, List.set_cons_zero, List.set_cons_succ]
    refine stepH_call 29 52 rfl (by kernel_rfl) (by kernel_rfl) (by kernel_rfl) 13 #[.tmp 51] #[23] (by kernel_rfl) (enters_of Try.func13 (by kernel_rfl) rfl) #[geo G I D] (by kernel_rfl) (rinodes_any _ G I D) ?_
    rintro e w5 ⟨rfl, hB5⟩
    have HA5 := Hid.mk (HA.out.trans (hB5.mono HA.out.size))
    clear HA hB5
    have HA := HA5
    clear HA5 hH
    have hH := (HK.out w5 HA.out).g3
    refine ⟨_, rfl, hH, ?_⟩
    simp only [List.setIfInBounds_toArray, List.set_cons_zero, List.set_cons_succ]
    refine takeH 30 53 (.bool false) rfl (by kernel_rfl) (by kernel_rfl) (by kernel_rfl) (by kernel_rfl) (fun _ _ _ h => h) (by kernel_rfl) (fun w hw => by (try dsimp only at hw); go_simp) hH ?_
    simp only [List.setIfInBounds_toArray, List.set_cons_zero, List.set_cons_succ]
    refine takeH 31 54 (.bool false) rfl (by kernel_rfl) (by kernel_rfl) (by kernel_rfl) (by kernel_rfl) (fun _ _ _ h => h) (by kernel_rfl) (fun w hw => by kernel_rfl) hH ?_
    simp only [List.setIfInBounds_toArray, List.set_cons_zero, List.set_cons_succ]
    refine takeH 32 55 (.bool false) rfl (by kernel_rfl) (by kernel_rfl) (by kernel_rfl) (by kernel_rfl) (fun _ _ _ h => h) (by kernel_rfl) (fun w hw => by kernel_rfl) hH ?_
    simp only [List.setIfInBounds_toArray, List.set_cons_zero, List.set_cons_succ]
    refine takeH 33 56 (geo G I D) rfl (by kernel_rfl) (by kernel_rfl) (by kernel_rfl) (by kernel_rfl) (fun _ _ _ h => h) (by kernel_rfl) (fun w hw => by (try dsimp only at hw); go_simp) hH ?_
    simp only [List.setIfInBounds_toArray, List.set_cons_zero, List.set_cons_succ]
    refine takeH 35 58 (geo G I D) rfl (by kernel_rfl) (by kernel_rfl) (by kernel_rfl) (by kernel_rfl) (fun _ _ _ h => h) (by kernel_rfl) (fun w hw => by (try dsimp only at hw); go_simp) hH ?_
    simp only [List.setIfInBounds_toArray, List.set_cons_zero, List.set_cons_succ]
    refine stepH_call 34 57 rfl (by kernel_rfl) (by kernel_rfl) (by kernel_rfl) 14 #[.tmp 56] #[23] (by kernel_rfl) (enters_of Try.func14 (by kernel_rfl) rfl) #[geo G I D] (by kernel_rfl) (blocks_any _ G I D) ?_
    rintro e w5 ⟨rfl, hB5⟩
    have HA5 := Hid.mk (HA.out.trans (hB5.mono HA.out.size))
    clear HA hB5
    have HA := HA5
    clear HA5 hH
    have hH := (HK.out w5 HA.out).g3
    refine ⟨_, rfl, hH, ?_⟩
    simp only [List.setIfInBounds_toArray, List.set_cons_zero, List.set_cons_succ]
    refine stepH_call 36 59 rfl (by kernel_rfl) (by kernel_rfl) (by kernel_rfl) 15 #[.tmp 58] #[23] (by kernel_rfl) (enters_of Try.func15 (by kernel_rfl) rfl) #[geo G I D] (by kernel_rfl) (rblocks_any _ G I D) ?_
    rintro e w5 ⟨rfl, hB5⟩
    have HA5 := Hid.mk (HA.out.trans (hB5.mono HA.out.size))
    clear HA hB5
    have HA := HA5
    clear HA5 hH
    have hH := (HK.out w5 HA.out).g3
    refine ⟨_, rfl, hH, ?_⟩
    simp only [List.setIfInBounds_toArray, List.set_cons_zero, List.set_cons_succ]
    refine takeH 37 60 (.bool false) rfl (by kernel_rfl) (by kernel_rfl) (by kernel_rfl) (by kernel_rfl) (fun _ _ _ h => h) (by kernel_rfl) (fun w hw => by (try dsimp only at hw); go_simp) hH ?_
    simp only [List.setIfInBounds_toArray, List.set_cons_zero, List.set_cons_succ]
    refine takeH 38 61 (.bool false) rfl (by kernel_rfl) (by kernel_rfl) (by kernel_rfl) (by kernel_rfl) (fun _ _ _ h => h) (by kernel_rfl) (fun w hw => by kernel_rfl) hH ?_
    simp only [List.setIfInBounds_toArray, List.set_cons_zero, List.set_cons_succ]
    refine wpAnyH_done (by kernel_rfl) ?_ _
    obtain ⟨c0, c1, c2⟩ := hH
    have HG2 := Hid.mk (HK.out _ HA.out)
    have HB2 := Hid.mk (HB1.out.drew.trans (HA.out.mono HB1.out.size))
    clear HK HA HG1 HB1
    have HG1 := HG2
    have HB1 := HB2
    clear HG2 HB2
    go_wp2_with (first | (go_at_call 16; refine (head_any _ G I D n).mono ?_; rintro e w1 ⟨rfl, hB⟩; obtain ⟨hG1, hB1⟩ := HG1.out.then HB1.out hB; clear c0 c1 c2 HG1 HB1; obtain ⟨c0, c1, c2⟩ := hG1.g3; have HG1 := Hid.mk hG1; have HB1 := Hid.mk hB1; clear hB hG1 hB1) | (go_at_call 17; refine (rhead_any _ G I D n).mono ?_; rintro e w1 ⟨rfl, hB⟩; obtain ⟨hG1, hB1⟩ := HG1.out.then HB1.out hB; clear c0 c1 c2 HG1 HB1; obtain ⟨c0, c1, c2⟩ := hG1.g3; have HG1 := Hid.mk hG1; have HB1 := Hid.mk hB1; clear hB hG1 hB1) | (go_at_call 18; refine (inodeat_any _ G I D n).mono ?_; rintro e w1 ⟨rfl, hB⟩; obtain ⟨hG1, hB1⟩ := HG1.out.then HB1.out hB; clear c0 c1 c2 HG1 HB1; obtain ⟨c0, c1, c2⟩ := hG1.g3; have HG1 := Hid.mk hG1; have HB1 := Hid.mk hB1; clear hB hG1 hB1) | (go_at_call 19; refine (rinodeat_any _ G I D n).mono ?_; rintro e w1 ⟨rfl, hB⟩; obtain ⟨hG1, hB1⟩ := HG1.out.then HB1.out hB; clear c0 c1 c2 HG1 HB1; obtain ⟨c0, c1, c2⟩ := hG1.g3; have HG1 := Hid.mk hG1; have HB1 := Hid.mk hB1; clear hB hG1 hB1) | (go_at_call 20; refine (wdata_any _ G I D n).mono ?_; rintro e w1 ⟨rfl, hB⟩; obtain ⟨hG1, hB1⟩ := HG1.out.then HB1.out hB; clear c0 c1 c2 HG1 HB1; obtain ⟨c0, c1, c2⟩ := hG1.g3; have HG1 := Hid.mk hG1; have HB1 := Hid.mk hB1; clear hB hG1 hB1) | (go_at_call 21; refine (rdata_any _ G I D n).mono ?_; rintro e w1 ⟨rfl, hB⟩; obtain ⟨hG1, hB1⟩ := HG1.out.then HB1.out hB; clear c0 c1 c2 HG1 HB1; obtain ⟨c0, c1, c2⟩ := hG1.g3; have HG1 := Hid.mk hG1; have HB1 := Hid.mk hB1; clear hB hG1 hB1) | (go_at_call 22; refine (wdataof_any _ G I D n).mono ?_; rintro e w1 ⟨rfl, hB⟩; obtain ⟨hG1, hB1⟩ := HG1.out.then HB1.out hB; clear c0 c1 c2 HG1 HB1; obtain ⟨c0, c1, c2⟩ := hG1.g3; have HG1 := Hid.mk hG1; have HB1 := Hid.mk hB1; clear hB hG1 hB1) | (go_at_call 23; refine (rdataof_any _ G I D n).mono ?_; rintro e w1 ⟨rfl, hB⟩; obtain ⟨hG1, hB1⟩ := HG1.out.then HB1.out hB; clear c0 c1 c2 HG1 HB1; obtain ⟨c0, c1, c2⟩ := hG1.g3; have HG1 := Hid.mk hG1; have HB1 := Hid.mk hB1; clear hB hG1 hB1) | (go_at_call 24; refine (group_any _ G I D n).mono ?_; rintro e w1 ⟨rfl, hB⟩; obtain ⟨hG1, hB1⟩ := HG1.out.then HB1.out hB; clear c0 c1 c2 HG1 HB1; obtain ⟨c0, c1, c2⟩ := hG1.g3; have HG1 := Hid.mk hG1; have HB1 := Hid.mk hB1; clear hB hG1 hB1) | (go_at_call 25; refine (rgroup_any _ G I D n).mono ?_; rintro e w1 ⟨rfl, hB⟩; obtain ⟨hG1, hB1⟩ := HG1.out.then HB1.out hB; clear c0 c1 c2 HG1 HB1; obtain ⟨c0, c1, c2⟩ := hG1.g3; have HG1 := Hid.mk hG1; have HB1 := Hid.mk hB1; clear hB hG1 hB1))
    go_ret
    exact ⟨rfl, HB1.out⟩

theorem tells_any (w : World) (G I D n : Int) : Calls Try.prog 3 #[geo G I D, .int .i64 n] w fun e w' => e = .returned (.bool true) ∧ Below w.heap.size w w' := by
  cases hg : good G I D with
  | true => exact tells_yes w G I D n hg
  | false => exact tells_no w G I D n hg
end Go.Proofs.Ythgdnabonnahaaa
