/-
  What Group, InodeAt, Data and DataOf of the reference tell.
-/
import Derived.Test.YteegopccpgbakaaTell2
import Derived.BigQuiet
namespace Go.Proofs.Yteegopccpgbakaa
open Go Go.Proofs Go.RowKit Go.Shelf
theorem _root_.Go.RowKit.Below.drewN {B : Nat} {a w : World} (h : Below B a w) (m : Nat) : Below B a (w.drewN m) := ⟨h.os, h.tape, h.output, h.size, h.block⟩
theorem gr_ino {G I D n : Int} : grB G I D n = true ↔ 1 ≤ n ∧ n ≤ inoI G I D := by
  rw [gr_iff]
  cases hg : good G I D with
  | true => rw [ino_yes hg]; simp
  | false => rw [ino_no hg]; simp; try omega
theorem da_blk {G I D n : Int} : daB G I D n = true ↔ 0 ≤ n ∧ n < blkI G I D := by
  cases hg : good G I D with
  | true => rw [blk_yes hg]; simp [daB, hg]
  | false => rw [blk_no hg]; simp [daB, hg]; try omega
set_option maxRecDepth 100000 in
set_option maxHeartbeats 4000000 in
theorem rgroup_any (w : World) (G I D n : Int) : Calls Try.prog 37 #[geo G I D, .int .i64 n] w fun e w' => e = .returned (.tuple #[.int .i64 (grI G I D n), .int .i64 (grN G I D n), .bool (grB G I D n)]) ∧ Below w.heap.size w w' := by
  have HI := Hid.mk (fun w => rinodes_any w G I D)
  have hgr := gr_ino (G := G) (I := I) (D := D) (n := n)
  have HQ : Hid (∀ q, inoI G I D = q → 0 ≤ n → True) := Hid.mk (fun _ _ _ => trivial)
  obtain ⟨q, eq⟩ : ∃ q, inoI G I D = q := ⟨_, rfl⟩
  rw [eq] at HI hgr
  clear HQ eq
  cases hb : grB G I D n with
  | false =>
    have HV := Hid.mk (gr_no hb)
    rw [hb] at hgr
    by_cases h1 : n < 1
    · clear hb hgr
      go_enter Try.func37, Try.ntmps37
      go_wp2
      go_ret3
      exact ⟨by rw [HV.out.1, HV.out.2.1]; rfl, (Below.refl _ w).alloc (Nat.le_refl _) _⟩
    · have h2 : q < n := by simp at hgr; omega
      clear hb hgr
      go_enter Try.func37, Try.ntmps37
      go_wp2_with (go_at_call 54; refine (HI.out _).mono ?_; rintro e w1 ⟨rfl, hB⟩; obtain ⟨hG1, hB1⟩ := behind hB; obtain ⟨c0, c1, c2⟩ := hG1.g3; have HG1 := Hid.mk hG1; have HB1 := Hid.mk hB1; clear hB hG1 hB1)
      go_ret3
      exact ⟨by rw [HV.out.1, HV.out.2.1]; rfl, HB1.out⟩
  | true =>
    have HV := Hid.mk (gr_yes hb)
    obtain ⟨hg, b1, b2, b3, b4, -⟩ := gr_bounds hb
    have hgb := good_iff.1 hg
    have hn := gr_iff.1 hb
    rw [hb] at hgr
    simp at hgr
    have h1 : ¬ n < 1 := by omega
    have h2 : ¬ q < n := by omega
    have m3 := mul_fits (a := G) (A := 8) (b := I * 16) (B := 64) (by omega) (by omega) (by omega) (by omega)
    have t1 : (n - 1).tdiv (I * 16) = (n - 1) / (I * 16) := Int.tdiv_eq_ediv_of_nonneg (by omega)
    have t2 : (n - 1).tmod (I * 16) = (n - 1) % (I * 16) := Int.tmod_eq_emod_of_nonneg (by omega)
    have w1' : IntKind.i64.wrap (n - 1) = n - 1 := by rw [IntKind.wrap_i64]; omega
    have w2' : IntKind.i64.wrap (16 * I) = I * 16 := by rw [IntKind.wrap_i64]; omega
    have z1 : ¬ I * 16 = 0 := by omega
    obtain ⟨k, ek⟩ : ∃ k, (n - 1) / (I * 16) = k := ⟨_, rfl⟩
    obtain ⟨r, er⟩ : ∃ r, (n - 1) % (I * 16) = r := ⟨_, rfl⟩
    rw [ek] at t1 HV b1 b2
    rw [er] at t2 HV b3 b4
    have w3' : IntKind.i64.wrap k = k := by rw [IntKind.wrap_i64]; omega
    have w4' : IntKind.i64.wrap r = r := by rw [IntKind.wrap_i64]; omega
    obtain ⟨P, eP⟩ : ∃ P, I * 16 = P := ⟨_, rfl⟩
    rw [eP] at w2' z1 t1 t2
    clear ek er eP
    clear hb hg hgb b1 b2 b3 b4 hgr hn m3
    go_enter Try.func37, Try.ntmps37
    go_wp2_with (go_at_call 54; refine (HI.out _).mono ?_; rintro e w1 ⟨rfl, hB⟩; obtain ⟨hG1, hB1⟩ := behind hB; obtain ⟨c0, c1, c2⟩ := hG1.g3; have HG1 := Hid.mk hG1; have HB1 := Hid.mk hB1; clear hB hG1 hB1)
    go_quiet (fail)
    go_wp2
    go_ret3
    exact ⟨by rw [HV.out.1, HV.out.2.1]; rfl, HB1.out.drewN _⟩
set_option maxRecDepth 100000 in
theorem rinodeat_any (w : World) (G I D n : Int) : Calls Try.prog 18 #[geo G I D, .int .i64 n] w fun e w' => e = .returned (.tuple #[.int .i64 (iaI G I D n), .int .i64 (iaO G I D n), .bool (grB G I D n)]) ∧ Below w.heap.size w w' := by
  have HGR := Hid.mk (fun w => rgroup_any w G I D n)
  cases hb : grB G I D n with
  | false =>
    rw [hb] at HGR
    have HV := Hid.mk (gr_no hb)
    clear hb
    go_enter Try.func18, Try.ntmps18
    go_wp2_with (go_at_call 37; refine (HGR.out _).mono ?_; rintro e w1 ⟨rfl, hB⟩; obtain ⟨hG1, hB1⟩ := behind hB; obtain ⟨c0, c1, c2⟩ := hG1.g3; have HG1 := Hid.mk hG1; have HB1 := Hid.mk hB1; clear hB hG1 hB1)
    go_ret3
    exact ⟨by rw [HV.out.2.2.1, HV.out.2.2.2]; rfl, HB1.out⟩
  | true =>
    rw [hb] at HGR
    have HV := Hid.mk (gr_yes hb)
    obtain ⟨hg, b1, b2, b3, b4, -⟩ := gr_bounds hb
    have hgb := good_iff.1 hg
    rw [HV.out.1, HV.out.2.1] at HGR
    obtain ⟨k, ek⟩ : ∃ k, (n - 1) / (I * 16) = k := ⟨_, rfl⟩
    obtain ⟨r, er⟩ : ∃ r, (n - 1) % (I * 16) = r := ⟨_, rfl⟩
    rw [ek] at HGR b1 b2 HV
    rw [er] at HGR b3 b4 HV
    have m2 := mul_fits (a := k) (A := 8) (b := 1 + I + D) (B := 1005) (by omega) (by omega) (by omega) (by omega)
    have H17 := Hid.mk (fun w => rhead_any w G I D k)
    obtain ⟨e1, e2⟩ := hd_yes hg b1 b2
    rw [e1, e2] at H17
    obtain ⟨m, em⟩ : ∃ m, 1 + k * (1 + I + D) = m := ⟨_, rfl⟩
    rw [em] at H17 HV
    have t1 : r.tdiv 16 = r / 16 := Int.tdiv_eq_ediv_of_nonneg b3
    have t2 : r.tmod 16 = r % 16 := Int.tmod_eq_emod_of_nonneg b3
    have w1' : IntKind.i64.wrap (m + 1) = m + 1 := by rw [IntKind.wrap_i64]; omega
    have w2' : IntKind.i64.wrap (m + 1 + r / 16) = m + 1 + r / 16 := by rw [IntKind.wrap_i64]; omega
    have w3' : IntKind.i64.wrap (r / 16) = r / 16 := by rw [IntKind.wrap_i64]; omega
    have w4' : IntKind.i64.wrap (r % 16) = r % 16 := by rw [IntKind.wrap_i64]; omega
    have w5' : IntKind.i64.wrap (r % 16 * 64) = r % 16 * 64 := by rw [IntKind.wrap_i64]; omega
    clear hb hg hgb ek er b1 b2 b3 b4 m2 em e1 e2
    go_enter Try.func18, Try.ntmps18
    go_wp2_with (first | (go_at_call 37; refine (HGR.out _).mono ?_; rintro e w1 ⟨rfl, hB⟩; obtain ⟨hG1, hB1⟩ := behind hB; obtain ⟨c0, c1, c2⟩ := hG1.g3; have HG1 := Hid.mk hG1; have HB1 := Hid.mk hB1; clear hB hG1 hB1) | (go_at_call 36; refine (H17.out _).mono ?_; rintro e w3 ⟨rfl, hB3⟩))
    go_ret3
    exact ⟨by rw [HV.out.2.2.1, HV.out.2.2.2]; rfl, HB1.out.trans (hB3.mono HB1.out.size)⟩
set_option maxRecDepth 100000 in
set_option maxHeartbeats 4000000 in
theorem rdata_any (w : World) (G I D n : Int) : Calls Try.prog 17 #[geo G I D, .int .i64 n] w fun e w' => e = .returned (.tuple #[.int .i64 (daI G I D n), .bool (daB G I D n)]) ∧ Below w.heap.size w w' := by
  have HI := Hid.mk (fun w => rblocks_any w G I D)
  have hda := da_blk (G := G) (I := I) (D := D) (n := n)
  obtain ⟨q, eq⟩ : ∃ q, blkI G I D = q := ⟨_, rfl⟩
  rw [eq] at HI hda
  clear eq
  cases hb : daB G I D n with
  | false =>
    have HV : Hid (daI G I D n = 0) := Hid.mk (if_neg (by simp [hb]))
    rw [hb] at hda
    by_cases h1 : n < 0
    · clear hb hda
      go_enter Try.func17, Try.ntmps17
      go_wp2
      go_ret2
      exact ⟨by rw [HV.out]; rfl, (Below.refl _ w).alloc (Nat.le_refl _) _⟩
    · have h2 : q ≤ n := by simp at hda; omega
      clear hb hda
      go_enter Try.func17, Try.ntmps17
      go_wp2_with (go_at_call 35; refine (HI.out _).mono ?_; rintro e w1 ⟨rfl, hB⟩; obtain ⟨hG1, hB1⟩ := behind hB; obtain ⟨c0, c1, c2⟩ := hG1.g3; have HG1 := Hid.mk hG1; have HB1 := Hid.mk hB1; clear hB hG1 hB1)
      go_ret2
      exact ⟨by rw [HV.out]; rfl, HB1.out⟩
  | true =>
    have HV : Hid (daI G I D n = 1 + n / D * (1 + I + D) + 1 + I + n % D) := Hid.mk (if_pos hb)
    have hb2 := hb
    simp [daB] at hb2
    obtain ⟨hg, hn0, hnG⟩ := hb2
    have hgb := good_iff.1 hg
    rw [hb] at hda
    simp at hda
    have h1 : ¬ n < 0 := by omega
    have h2 : ¬ q ≤ n := by omega
    have t1 : n.tdiv D = n / D := Int.tdiv_eq_ediv_of_nonneg (by omega)
    have t2 : n.tmod D = n % D := Int.tmod_eq_emod_of_nonneg (by omega)
    obtain ⟨e1, e2, e3⟩ := divmod_of n D (by omega)
    have d1 : 0 ≤ n / D := div_nonneg (by omega) (by omega)
    have d2 : n / D < G := div_lt (by omega) hnG
    obtain ⟨k, ek⟩ : ∃ k, n / D = k := ⟨_, rfl⟩
    obtain ⟨r, er⟩ : ∃ r, n % D = r := ⟨_, rfl⟩
    rw [ek] at t1 HV d1 d2
    rw [er] at t2 HV e2 e3
    have m2 := mul_fits (a := k) (A := 8) (b := 1 + I + D) (B := 1005) (by omega) (by omega) (by omega) (by omega)
    have H17 := Hid.mk (fun w => rhead_any w G I D k)
    obtain ⟨f1, f2⟩ := hd_yes hg d1 d2
    rw [f1, f2] at H17
    obtain ⟨m, em⟩ : ∃ m, 1 + k * (1 + I + D) = m := ⟨_, rfl⟩
    rw [em] at H17 HV
    have w0' : IntKind.i64.wrap k = k := by rw [IntKind.wrap_i64]; omega
    have w1' : IntKind.i64.wrap (m + 1) = m + 1 := by rw [IntKind.wrap_i64]; omega
    have w2' : IntKind.i64.wrap (m + 1 + I) = m + 1 + I := by rw [IntKind.wrap_i64]; omega
    have w3' : IntKind.i64.wrap (m + 1 + I + r) = m + 1 + I + r := by rw [IntKind.wrap_i64]; omega
    have w4' : IntKind.i64.wrap r = r := by rw [IntKind.wrap_i64]; omega
    have z1 : ¬ D = 0 := by omega
    clear hb hg hgb ek er hn0 hnG hda e1 e2 e3 d1 d2 m2 em f1 f2
    go_enter Try.func17, Try.ntmps17
    go_wp2_with (go_at_call 35; refine (HI.out _).mono ?_; rintro e w1 ⟨rfl, hB⟩; obtain ⟨hG1, hB1⟩ := behind hB; obtain ⟨c0, c1, c2⟩ := hG1.g3; have HG1 := Hid.mk hG1; have HB1 := Hid.mk hB1; clear hB hG1 hB1)
    have HK : Hid (∀ W', Below w1.heap.size w1.drew W' → GAt w.heap.size G I D W') := Hid.mk (fun W' hB => GAt.below (W := w1.drew) HG1.out hB HG1.out.lt)
    clear c0 c1 c2
    refine wp_region_held_drew (S := G3 w.heap.size G I D) (by kernel_rfl) (HK.out _ (Below.refl _ _)).g3 (fun hH => ?_)
    change wpAnyH Try.prog Region.Mode.any _ _ _ 11 _ _ _
    refine takeH 0 17 (geo G I D) rfl (by kernel_rfl) (by kernel_rfl) (by kernel_rfl) (by kernel_rfl) (fun _ _ _ h => h) (by kernel_rfl) (fun w hw => by (try dsimp only at hw); go_simp) hH ?_
    simp only [List.setIfInBounds_toArray, List.set_cons_zero, List.set_cons_succ]
    refine takeH 1 18 (.int .i64 (n)) rfl (by kernel_rfl) (by kernel_rfl) (by kernel_rfl) (by kernel_rfl) (fun _ _ _ h => h) (by kernel_rfl) (fun w hw => by kernel_rfl) hH ?_
    simp only [List.setIfInBounds_toArray, List.set_cons_zero, List.set_cons_succ]
    refine takeH 2 19 (.pointer (some ⟨w.heap.size, 2, none⟩)) rfl (by kernel_rfl) (by kernel_rfl) (by kernel_rfl) (by kernel_rfl) (fun _ _ _ h => h) (by kernel_rfl) (fun w hw => by (try dsimp only at hw); go_simp) hH ?_
    simp only [List.setIfInBounds_toArray, List.set_cons_zero, List.set_cons_succ]
    refine takeH 3 20 (.int .i64 (D)) rfl (by kernel_rfl) (by kernel_rfl) (by kernel_rfl) (by kernel_rfl) (fun _ _ _ h => h) (by kernel_rfl) (fun w hw => by (try dsimp only at hw); go_simp) hH ?_
    simp only [List.setIfInBounds_toArray, List.set_cons_zero, List.set_cons_succ]
    refine takeH 4 21 (.int .i64 (k)) rfl (by kernel_rfl) (by kernel_rfl) (by kernel_rfl) (by kernel_rfl) (fun _ _ _ h => h) (by kernel_rfl) (fun w hw => by (try dsimp only at hw); go_simp) hH ?_
    simp only [List.setIfInBounds_toArray, List.set_cons_zero, List.set_cons_succ]
    refine stepH_call 5 22 rfl (by kernel_rfl) (by kernel_rfl) (by kernel_rfl) 36 #[.tmp 17, .tmp 21] #[23, 3] (by kernel_rfl) (enters_of Try.func36 (by kernel_rfl) rfl) #[geo G I D, .int .i64 (k)] (by kernel_rfl) (H17.out _) ?_
    rintro e w5 ⟨rfl, hB5⟩
    have hH5 := (HK.out w5 hB5).g3
    refine ⟨_, rfl, hH5, ?_⟩
    simp only [List.setIfInBounds_toArray, List.set_cons_zero, List.set_cons_succ]
    refine takeH 6 16 (.tuple #[.int .i64 m, .bool true]) rfl (by kernel_rfl) (by kernel_rfl) (by kernel_rfl) (by kernel_rfl) (fun _ _ _ h => h) (by kernel_rfl) (fun w hw => by kernel_rfl) hH5 ?_
    simp only [List.setIfInBounds_toArray, List.set_cons_zero, List.set_cons_succ]
    refine takeH 7 23 (.int .i64 (m)) rfl (by kernel_rfl) (by kernel_rfl) (by kernel_rfl) (by kernel_rfl) (fun _ _ _ h => h) (by kernel_rfl) (fun w hw => by (try dsimp only at hw); go_simp) hH5 ?_
    simp only [List.setIfInBounds_toArray, List.set_cons_zero, List.set_cons_succ]
    refine takeH 8 24 (.bool true) rfl (by kernel_rfl) (by kernel_rfl) (by kernel_rfl) (by kernel_rfl) (fun _ _ _ h => h) (by kernel_rfl) (fun w hw => by (try dsimp only at hw); go_simp) hH5 ?_
    simp only [List.setIfInBounds_toArray, List.set_cons_zero, List.set_cons_succ]
    refine takeH 9 6 (.int .i64 (m)) rfl (by kernel_rfl) (by kernel_rfl) (by kernel_rfl) (by kernel_rfl) (fun _ _ _ h => h) (by kernel_rfl) (fun w hw => by kernel_rfl) hH5 ?_
    simp only [List.setIfInBounds_toArray, List.set_cons_zero, List.set_cons_succ]
    refine takeH 10 7 (.bool true) rfl (by kernel_rfl) (by kernel_rfl) (by kernel_rfl) (by kernel_rfl) (fun _ _ _ h => h) (by kernel_rfl) (fun w hw => by kernel_rfl) hH5 ?_
    simp only [List.setIfInBounds_toArray, List.set_cons_zero, List.set_cons_succ]
    refine wpAnyH_done (by kernel_rfl) ?_ _
    obtain ⟨c0, c1, c2⟩ := hH5
    have HB5 := Hid.mk hB5
    clear hB5 hH
    go_wp2_with fail
    go_quiet (fail)
    go_wp2
    go_ret2
    exact ⟨by rw [HV.out]; rfl, (HB1.out.drew.trans (HB5.out.mono HB1.out.size)).drewN _⟩
theorem do_tot {G I D b : Int} : doB G I D b = true ↔ 1 ≤ b ∧ b < totI G I D ∧ 1 + I ≤ (b - 1) % (1 + I + D) := by
  rw [do_iff]
  cases hg : good G I D with
  | true => rw [tot_yes hg]; simp
  | false => rw [tot_no hg]; simp; try omega
end Go.Proofs.Yteegopccpgbakaa
