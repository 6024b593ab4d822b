/-
  Pack of the program.
-/
import Derived.Test.YteegopccpgbakaaSupPackRef
import Derived.Lib.BufferWrite
namespace Go.Proofs.Yteegopccpgbakaa
open Go Go.Proofs Go.RowKit Go.Shelf
namespace Sup
/-- copy(b, "..."), from the beginning. -/
theorem copy_str_run (W : World) (g n c : Nat) (xs ys : List Int) (s : ByteArray) (h : RAt W g xs) (hs : Lib.byteCells s.data.toList = By ys) (hn : ys.length ≤ n) (hl : n ≤ xs.length) :
    ∃ W', (Builtin.copy_ #[26, 9] 3 #[.slice (some ⟨g, 0, none⟩) n c, .string s]).run Try.prog W = .ok (.int .i64 ys.length) W' ∧ RAt W' g (splice xs 0 ys) ∧ Only (fun k => k = g) W W' := by
  obtain ⟨i0, hi, hz0, hz1, hz2⟩ := info5p
  have hsz : s.size = ys.length := by
    have := congrArg List.length hs
    rw [Lib.byteCells_length, By_length] at this
    rw [← this, ← Lib.size_eq]
  have hr := Lib.run_copy_row_string (P := Try.prog) W 26 9 3 5 g 0 n c s (By xs).toArray 5 Try.underlying26 (by rw [hi]; simp [hz1]) h (by omega) (by simp [By_length]; omega)
  refine ⟨W.setRow g (By (splice xs 0 ys)).toArray, hr.trans ?_, setRow_heap W g _ _ 5 _ h, (Only.refl (fun k => k = g) W).setRow (.inl rfl) _⟩
  rw [hsz, hs]
  simp [splice, By]
  rfl
/-- What Pack holds in memory: the geometry, the row that it makes. -/
structure PkAt (w : World) (b g : Nat) (G I D : Int) (xs : List Int) (W : World) : Prop where
  geo : GAt b G I D W
  row : RAt W g xs
  below : Below w.heap.size w W
  ne : b ≠ g
  ge : w.heap.size ≤ g
theorem PkAt.put {w W W' : World} {b g : Nat} {G I D : Int} {xs ys : List Int} (h : PkAt w b g G I D xs W) (hr : RAt W' g ys) (ho : Only (fun k => k = g) W W') : PkAt w b g G I D ys W' := by
  refine ⟨?_, hr, h.below.trans (ho.below h.below.size (fun k e => by rw [e]; exact h.ge)), h.ne, h.ge⟩
  unfold GAt
  rw [ho.block b h.geo.lt h.ne]
  exact h.geo
theorem PkAt.drew {w W : World} {b g : Nat} {G I D : Int} {xs : List Int} (h : PkAt w b g G I D xs W) : PkAt w b g G I D xs W.drew := ⟨h.geo, h.row, h.below.drew, h.ne, h.ge⟩
theorem PkAt.then {w W W' : World} {b g : Nat} {G I D : Int} {xs : List Int} (h : PkAt w b g G I D xs W) (hb : Below W.heap.size W W') : PkAt w b g G I D xs W' :=
  ⟨h.geo.below hb h.geo.lt, h.row.below hb h.row.lt, h.below.trans (hb.mono h.below.size), h.ne, h.ge⟩
theorem splice_lock : splice (zeros 1024) 0 lockL = lockL ++ zeros (1024 - 8) := by
  have h := splice_zero 1024 [] lockL 0 rfl (by decide)
  simpa [lockL] using h
theorem lock_bytes : Lib.byteCells (ByteArray.mk #[76, 79, 67, 75, 71, 65, 84, 69]).data.toList = By lockL := by rfl
theorem pack_no (w : World) (G I D : Int) (hg : good G I D = false) : Calls Try.prog 23 #[geo G I D] w fun e w' => e = .returned (.tuple #[.slice none 0 0, .int .i64 1]) ∧ Below w.heap.size w w' := by
  have HG := Hid.mk hg
  clear hg
  go_enter Try.func23, Try.ntmps23
  go_wp2_with (go_at_call 9; refine (check_no _ G I D HG.out).mono ?_; rintro e w1 ⟨rfl, hB⟩; obtain ⟨hG1, hB1⟩ := behind hB; have HB1 := Hid.mk hB1; clear hB hG1 hB1)
  go_ret2
  exact ⟨rfl, HB1.out⟩
theorem hdr_put (G I D : Int) : splice (lockL ++ zeros (1024 - 8)) 8 (leLs 4 [G, I, D]) = hdrL G I D ++ zeros (1024 - 20) := by
  have h := splice_zero 1024 lockL (leLs 4 [G, I, D]) 8 rfl (by simp [leLs_length])
  rw [leLs_length] at h
  rw [h]
  simp [hdrL, leLs]
theorem super_put (G I D s : Int) : splice (hdrL G I D ++ zeros (1024 - 20)) 20 (leLs 4 [s]) = hdrL G I D ++ leL s 4 ++ zeros 1000 := by
  have e : leLs 4 [s] = leL s 4 := by simp [leLs]
  have h := splice_zero 1024 (hdrL G I D) (leL s 4) 20 (hdrL_length G I D) (by simp [leL_length])
  rw [leL_length] at h
  rw [e, h]
set_option maxRecDepth 100000 in
set_option maxHeartbeats 4000000 in
theorem pack_yes (w : World) (G I D : Int) (hg : good G I D = true) : Calls Try.prog 23 #[geo G I D] w fun e w' => ∃ g, e = .returned (.tuple #[.slice (some ⟨g, 0, none⟩) 1024 1024, .int .i64 0]) ∧ RAt w' g (superL G I D) ∧ w.heap.size ≤ g ∧ Below w.heap.size w w' := by
  have HG := Hid.mk hg
  have hb := good_iff.1 hg
  clear hg
  go_enter Try.func23, Try.ntmps23
  go_wp2_with (first
    | (go_at_call 9; refine (check_yes _ G I D HG.out).mono ?_; rintro e w1 ⟨rfl, hB⟩; obtain ⟨hG1, hB1⟩ := behind hB; obtain ⟨g, hge⟩ : ∃ g, g = w1.heap.size := ⟨_, rfl⟩; have hP0 : PkAt w w.heap.size g G I D (zeros 1024) (w1.alloc (.cells (By (zeros 1024)).toArray 5)) := ⟨hG1.below ((Below.refl _ w1).alloc (Nat.le_refl _) _) hG1.lt, by rw [hge]; exact blk_new w1 _, hB1.alloc hB1.size _, by rw [hge]; exact Nat.ne_of_lt hG1.lt, by rw [hge]; exact hB1.size⟩; obtain ⟨W2, r2, hr2, ho2⟩ := copy_str_run _ g 1024 1024 (zeros 1024) lockL _ hP0.row lock_bytes (by decide) (by rw [zeros_length]; omega); rw [splice_lock] at hr2; change _ = Result.ok (Value.int .i64 8) W2 at r2; have HP := Hid.mk (hP0.put hr2 ho2); have HR2 := Hid.mk r2; have HMK := Hid.mk (make_run w1 1024 (by omega)); rw [← hge] at HMK; have HGE := Hid.mk hge; clear hB hG1 hB1 hP0 r2 hr2 ho2 hge)
    | (at_make; refine wpList_make_known rfl _ _ 26 rfl _ _ _ _ rfl rfl HMK.out ?_)
    | (refine wpList_copy_known rfl (.tmp 13) (.const (.string ⟨#[76, 79, 67, 75, 71, 65, 84, 69]⟩)) 26 9 rfl _ _ _ _ rfl rfl HR2.out ?_))
  have HGE2 := Hid.mk HP.out.row.lt
  -- the numbers, in a row of their own
  obtain ⟨X, hX⟩ : ∃ X, X = W2.drew.alloc (.cells (Iy [G, I, D]).toArray 3) := ⟨_, rfl⟩
  have hPX : PkAt w w.heap.size g G I D (lockL ++ zeros (1024 - 8)) X := by rw [hX]; exact HP.out.drew.then ((Below.refl _ W2.drew).alloc (Nat.le_refl _) _)
  have hLX : LAt X (some ⟨W2.drew.heap.size, 0, none⟩) 3 [G, I, D] := by rw [hX]; exact lat_newi W2.drew [G, I, D]
  have HQ1 : Hid (Calls Try.prog 40 #[.slice (some ⟨g, 8, none⟩) 1016 1016, .slice (some ⟨W2.drew.heap.size, 0, none⟩) 3 3] X fun e w' => e = .returned (.int .i64 12) ∧ PkAt w w.heap.size g G I D (hdrL G I D ++ zeros (1024 - 20)) w') := Hid.mk (by
    refine (put32_any X g 8 1016 1016 (lockL ++ zeros (1024 - 8)) (some ⟨W2.drew.heap.size, 0, none⟩) 3 3 [G, I, D] hPX.row hLX (fun a e => by cases e; exact Nat.ne_of_gt HGE2.out) (fun x hx => by simp at hx; omega) (by omega) (by simp [zeros_length, lockL]) (by omega)).mono ?_
    rintro e w' ⟨rfl, h1, h2⟩
    rw [hdr_put] at h1
    exact ⟨rfl, hPX.put h1 h2⟩)
  have HX := Hid.mk hX
  have hG3X := hPX.geo.g3
  clear hX hPX hLX
  refine wp_region_held_drew (S := G3 w.heap.size G I D) (by kernel_rfl) HP.out.geo.g3 (fun hH => ?_)
  change wpAnyH Try.prog Region.Mode.any _ _ _ 14 _ _ _
  refine takeH 0 15 (.int .i64 (8)) rfl (by kernel_rfl) (by kernel_rfl) (by kernel_rfl) (by kernel_rfl) (fun _ _ _ h => h) (by kernel_rfl) (fun w hw => by kernel_rfl) hH ?_
  simp only [List.setIfInBounds_toArray, List.set_cons_zero, List.set_cons_succ]
  refine takeH 1 16 (.slice (some ⟨g, 0, none⟩) 1024 1024) rfl (by kernel_rfl) (by kernel_rfl) (by kernel_rfl) (by kernel_rfl) (fun _ _ _ h => h) (by kernel_rfl) (fun w hw => by kernel_rfl) hH ?_
  simp only [List.setIfInBounds_toArray, List.set_cons_zero, List.set_cons_succ]
  refine takeH 2 17 (.int .i64 (8)) rfl (by kernel_rfl) (by kernel_rfl) (by kernel_rfl) (by kernel_rfl) (fun _ _ _ h => h) (by kernel_rfl) (fun w hw => by kernel_rfl) hH ?_
  simp only [List.setIfInBounds_toArray, List.set_cons_zero, List.set_cons_succ]
  refine takeH 3 18 (.slice (some ⟨g, 8, none⟩) 1016 1016) rfl (by kernel_rfl) (by kernel_rfl) (by kernel_rfl) (by kernel_rfl) (fun _ _ _ h => h) (by kernel_rfl) (fun w hw => by (try dsimp only at hw); go_simp) hH ?_
  simp only [List.setIfInBounds_toArray, List.set_cons_zero, List.set_cons_succ]
  refine takeH 4 19 (.pointer (some ⟨w.heap.size, 0, none⟩)) rfl (by kernel_rfl) (by kernel_rfl) (by kernel_rfl) (by kernel_rfl) (fun _ _ _ h => h) (by kernel_rfl) (fun w hw => by (try dsimp only at hw); go_simp) hH ?_
  simp only [List.setIfInBounds_toArray, List.set_cons_zero, List.set_cons_succ]
  refine takeH 5 20 (.int .i64 (G)) rfl (by kernel_rfl) (by kernel_rfl) (by kernel_rfl) (by kernel_rfl) (fun _ _ _ h => h) (by kernel_rfl) (fun w hw => by (try dsimp only at hw); go_simp) hH ?_
  simp only [List.setIfInBounds_toArray, List.set_cons_zero, List.set_cons_succ]
  refine takeH 6 21 (.pointer (some ⟨w.heap.size, 1, none⟩)) rfl (by kernel_rfl) (by kernel_rfl) (by kernel_rfl) (by kernel_rfl) (fun _ _ _ h => h) (by kernel_rfl) (fun w hw => by (try dsimp only at hw); go_simp) hH ?_
  simp only [List.setIfInBounds_toArray, List.set_cons_zero, List.set_cons_succ]
  refine takeH 7 22 (.int .i64 (I)) rfl (by kernel_rfl) (by kernel_rfl) (by kernel_rfl) (by kernel_rfl) (fun _ _ _ h => h) (by kernel_rfl) (fun w hw => by (try dsimp only at hw); go_simp) hH ?_
  simp only [List.setIfInBounds_toArray, List.set_cons_zero, List.set_cons_succ]
  refine takeH 8 23 (.pointer (some ⟨w.heap.size, 2, none⟩)) rfl (by kernel_rfl) (by kernel_rfl) (by kernel_rfl) (by kernel_rfl) (fun _ _ _ h => h) (by kernel_rfl) (fun w hw => by (try dsimp only at hw); go_simp) hH ?_
  simp only [List.setIfInBounds_toArray, List.set_cons_zero, List.set_cons_succ]
  refine takeH 9 24 (.int .i64 (D)) rfl (by kernel_rfl) (by kernel_rfl) (by kernel_rfl) (by kernel_rfl) (fun _ _ _ h => h) (by kernel_rfl) (fun w hw => by (try dsimp only at hw); go_simp) hH ?_
  simp only [List.setIfInBounds_toArray, List.set_cons_zero, List.set_cons_succ]
  refine stepH_run 10 25 (.slice (some ⟨W2.drew.heap.size, 0, none⟩) 3 3) X rfl (by kernel_rfl) (by kernel_rfl) (by kernel_rfl) (by rw [HX.out]; kernel_rfl) hG3X ?_
  simp only [List.setIfInBounds_toArray, List.set_cons_zero, List.set_cons_succ]
  refine stepH_call 11 26 rfl (by kernel_rfl) (by kernel_rfl) (by kernel_rfl) 40 #[.tmp 18, .tmp 25] #[26, 66] (by kernel_rfl) (enters_of Try.func40 (by kernel_rfl) rfl) #[.slice (some ⟨g, 8, none⟩) 1016 1016, .slice (some ⟨W2.drew.heap.size, 0, none⟩) 3 3] (by kernel_rfl) HQ1.out ?_
  rintro e W5 ⟨rfl, hP⟩
  have HP5 := Hid.mk hP
  clear hP hH hG3X HQ1 HP
  have HP := HP5
  clear HP5
  have hH := HP.out.geo.g3
  refine ⟨_, rfl, hH, ?_⟩
  simp only [List.setIfInBounds_toArray, List.set_cons_zero, List.set_cons_succ]
  refine takeH 12 27 (.int .i64 (20)) rfl (by kernel_rfl) (by kernel_rfl) (by kernel_rfl) (by kernel_rfl) (fun _ _ _ h => h) (by kernel_rfl) (fun w hw => by kernel_rfl) hH ?_
  simp only [List.setIfInBounds_toArray, List.set_cons_zero, List.set_cons_succ]
  refine takeH 13 6 (.int .i64 (20)) rfl (by kernel_rfl) (by kernel_rfl) (by kernel_rfl) (by kernel_rfl) (fun _ _ _ h => h) (by kernel_rfl) (fun w hw => by kernel_rfl) hH ?_
  simp only [List.setIfInBounds_toArray, List.set_cons_zero, List.set_cons_succ]
  refine wpAnyH_done (by kernel_rfl) ?_ _
  clear hH HX HGE2
  go_wp2_with fail
  have hsb := sumL_bound (hdrL G I D) (hdrL_bound G I D)
  rw [hdrL_length] at hsb
  have HSUM : Hid (Calls Try.prog 41 #[.slice (some ⟨g, 0, none⟩) 20 1024] W5.drew fun e w' => e = .returned (.int .i64 (sumL (hdrL G I D))) ∧ w' = W5.drew) := Hid.mk (by
    have h := sum_any W5.drew ⟨g, 0, none⟩ 20 1024 (hdrL G I D) (by
      have h := HP.out.drew.row.bat 0 20 (by simp [zeros_length, hdrL_length])
      rw [List.drop_zero, List.take_left' (hdrL_length G I D)] at h
      exact h) (hdrL_bound G I D) (by omega)
    exact h)
  generalize hgen : sumL (hdrL G I D) = sm at hsb HSUM
  have HE := Hid.mk hgen
  clear hgen
  have HGE2 := Hid.mk HP.out.row.lt
  obtain ⟨Y, hY⟩ : ∃ Y, Y = W5.drew.alloc (.cells (Iy [sm]).toArray 3) := ⟨_, rfl⟩
  have hPY : PkAt w w.heap.size g G I D (hdrL G I D ++ zeros (1024 - 20)) Y := by rw [hY]; exact HP.out.drew.then ((Below.refl _ W5.drew).alloc (Nat.le_refl _) _)
  have hLY : LAt Y (some ⟨W5.drew.heap.size, 0, none⟩) 1 [sm] := by rw [hY]; exact lat_newi W5.drew [sm]
  have HQ2 : Hid (Calls Try.prog 40 #[.slice (some ⟨g, 20, none⟩) 1004 1004, .slice (some ⟨W5.drew.heap.size, 0, none⟩) 1 1] Y fun e w' => e = .returned (.int .i64 4) ∧ PkAt w w.heap.size g G I D (hdrL G I D ++ leL sm 4 ++ zeros 1000) w') := Hid.mk (by
    refine (put32_any Y g 20 1004 1004 (hdrL G I D ++ zeros (1024 - 20)) (some ⟨W5.drew.heap.size, 0, none⟩) 1 1 [sm] hPY.row hLY (fun a e => by cases e; exact Nat.ne_of_gt HGE2.out) (fun x hx => by simp at hx; omega) (by omega) (by simp [zeros_length, hdrL_length]) (by omega)).mono ?_
    rintro e w' ⟨rfl, h1, h2⟩
    rw [super_put] at h1
    exact ⟨rfl, hPY.put h1 h2⟩)
  have HY := Hid.mk hY
  clear hY hPY hLY
  refine wp_region_held_drew (S := fun _ => True) (by kernel_rfl) trivial (fun hH => ?_)
  change wpAnyH Try.prog Region.Mode.any _ _ _ 9 _ _ _
  refine takeH 0 28 (.slice (some ⟨g, 0, none⟩) 1024 1024) rfl (by kernel_rfl) (by kernel_rfl) (by kernel_rfl) (by kernel_rfl) (fun _ _ _ h => h) (by kernel_rfl) (fun w hw => by kernel_rfl) hH ?_
  simp only [List.setIfInBounds_toArray, List.set_cons_zero, List.set_cons_succ]
  refine takeH 1 29 (.int .i64 (20)) rfl (by kernel_rfl) (by kernel_rfl) (by kernel_rfl) (by kernel_rfl) (fun _ _ _ h => h) (by kernel_rfl) (fun w hw => by kernel_rfl) hH ?_
  simp only [List.setIfInBounds_toArray, List.set_cons_zero, List.set_cons_succ]
  refine takeH 2 30 (.slice (some ⟨g, 20, none⟩) 1004 1004) rfl (by kernel_rfl) (by kernel_rfl) (by kernel_rfl) (by kernel_rfl) (fun _ _ _ h => h) (by kernel_rfl) (fun w hw => by (try dsimp only at hw); go_simp) hH ?_
  simp only [List.setIfInBounds_toArray, List.set_cons_zero, List.set_cons_succ]
  refine takeH 3 31 (.slice (some ⟨g, 0, none⟩) 1024 1024) rfl (by kernel_rfl) (by kernel_rfl) (by kernel_rfl) (by kernel_rfl) (fun _ _ _ h => h) (by kernel_rfl) (fun w hw => by kernel_rfl) hH ?_
  simp only [List.setIfInBounds_toArray, List.set_cons_zero, List.set_cons_succ]
  refine takeH 4 32 (.int .i64 (20)) rfl (by kernel_rfl) (by kernel_rfl) (by kernel_rfl) (by kernel_rfl) (fun _ _ _ h => h) (by kernel_rfl) (fun w hw => by kernel_rfl) hH ?_
  simp only [List.setIfInBounds_toArray, List.set_cons_zero, List.set_cons_succ]
  refine takeH 5 33 (.slice (some ⟨g, 0, none⟩) 20 1024) rfl (by kernel_rfl) (by kernel_rfl) (by kernel_rfl) (by kernel_rfl) (fun _ _ _ h => h) (by kernel_rfl) (fun w hw => by (try dsimp only at hw); go_simp) hH ?_
  simp only [List.setIfInBounds_toArray, List.set_cons_zero, List.set_cons_succ]
  refine stepH_call 6 34 rfl (by kernel_rfl) (by kernel_rfl) (by kernel_rfl) 41 #[.tmp 33] #[26] (by kernel_rfl) (enters_of Try.func41 (by kernel_rfl) rfl) #[.slice (some ⟨g, 0, none⟩) 20 1024] (by kernel_rfl) HSUM.out ?_
  rintro e w6 ⟨rfl, hw⟩
  subst w6
  refine ⟨_, rfl, trivial, ?_⟩
  simp only [List.setIfInBounds_toArray, List.set_cons_zero, List.set_cons_succ]
  refine stepH_run 7 35 (.slice (some ⟨W5.drew.heap.size, 0, none⟩) 1 1) Y rfl (by kernel_rfl) (by kernel_rfl) (by kernel_rfl) (by rw [HY.out]; kernel_rfl) trivial ?_
  simp only [List.setIfInBounds_toArray, List.set_cons_zero, List.set_cons_succ]
  refine stepH_call 8 36 rfl (by kernel_rfl) (by kernel_rfl) (by kernel_rfl) 40 #[.tmp 30, .tmp 35] #[26, 66] (by kernel_rfl) (enters_of Try.func40 (by kernel_rfl) rfl) #[.slice (some ⟨g, 20, none⟩) 1004 1004, .slice (some ⟨W5.drew.heap.size, 0, none⟩) 1 1] (by kernel_rfl) HQ2.out ?_
  rintro e W6 ⟨rfl, hP⟩
  have HP2 := Hid.mk hP
  clear hP
  refine ⟨_, rfl, trivial, ?_⟩
  simp only [List.setIfInBounds_toArray, List.set_cons_zero, List.set_cons_succ]
  refine wpAnyH_done (by kernel_rfl) ?_ _
  clear hH HP HSUM HQ2 HY HGE2
  go_wp2
  go_ret2
  refine ⟨g, rfl, ?_, HP2.out.ge, HP2.out.below⟩
  have h := HP2.out.row
  rw [← HE.out] at h
  exact h
theorem pack_any (w : World) (G I D : Int) : Calls Try.prog 23 #[geo G I D] w fun e w' => Below w.heap.size w w' ∧ ((good G I D = false ∧ e = .returned (.tuple #[.slice none 0 0, .int .i64 1])) ∨
    (good G I D = true ∧ ∃ g, e = .returned (.tuple #[.slice (some ⟨g, 0, none⟩) 1024 1024, .int .i64 0]) ∧ RAt w' g (superL G I D) ∧ w.heap.size ≤ g)) := by
  cases hg : good G I D with
  | false =>
    refine (pack_no w G I D hg).mono ?_
    rintro e w' ⟨rfl, h⟩
    exact ⟨h, .inl ⟨rfl, rfl⟩⟩
  | true =>
    refine (pack_yes w G I D hg).mono ?_
    rintro e w' ⟨g, rfl, h1, h2, h3⟩
    exact ⟨h3, .inr ⟨rfl, g, rfl, h1, h2⟩⟩
end Sup
end Go.Proofs.Yteegopccpgbakaa
