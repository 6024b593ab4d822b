/-
  What Group, InodeAt, Data and DataOf of the reference tell.
-/
import Derived.Test.YtjhfkcngaknbdaaTell2
import Derived.BigQuiet
namespace Go.Proofs.Ytjhfkcngaknbdaa
open Go Go.Proofs Go.RowKit Go.Shelf
theorem _root_.Go.RowKit.Below.drewN {B : Nat} {a w : World} (h : Below B a w) (m : Nat) : Below B a (w.drewN m) := ⟨h.os, h.tape, h.output, h.size, h.block⟩
theorem gr_ino {G I D n : Int} : grB G I D n = true ↔ 1 ≤ n ∧ n ≤ inoI G I D := by
  rw [gr_iff]
  cases hg : good G I D with
  | true => rw [ino_yes hg]; simp
  | false => rw [ino_no hg]; simp; try omega
theorem da_blk {G I D n : Int} : daB G I D n = true ↔ 0 ≤ n ∧ n < blkI G I D := by
  cases hg : good G I D with
  | true => rw [blk_yes hg]; simp [daB, hg]
  | false => rw [blk_no hg]; simp [daB, hg]; try omega
set_option maxRecDepth 100000 in
set_option maxHeartbeats 4000000 in
theorem rdata_any (w : World) (G I D n : Int) : Calls Try.prog 25 #[geo G I D, .int .i64 n] w fun e w' => e = .returned (.tuple #[.int .i64 (daI G I D n), .bool (daB G I D n)]) ∧ Below w.heap.size w w' := by
  have HI := Hid.mk (fun w => rblocks_any w G I D)
  have hda := da_blk (G := G) (I := I) (D := D) (n := n)
  obtain ⟨q, eq⟩ : ∃ q, blkI G I D = q := ⟨_, rfl⟩
  rw [eq] at HI hda
  clear eq
  cases hb : daB G I D n with
  | false =>
    have HV : Hid (daI G I D n = 0) := Hid.mk (if_neg (by simp [hb]))
    rw [hb] at hda
    by_cases h1 : n < 0
    · clear hb hda
      go_enter Try.func25, Try.ntmps25
      go_wp2
      go_ret2
      exact ⟨by rw [HV.out]; rfl, (Below.refl _ w).alloc (Nat.le_refl _) _⟩
    · have h2 : q ≤ n := by simp at hda; omega
      clear hb hda
      go_enter Try.func25, Try.ntmps25
      go_wp2_with (go_at_call 23; refine (HI.out _).mono ?_; rintro e w1 ⟨rfl, hB⟩; obtain ⟨hG1, hB1⟩ := behind hB; obtain ⟨c0, c1, c2⟩ := hG1.g3; have HG1 := Hid.mk hG1; have HB1 := Hid.mk hB1; clear hB hG1 hB1)
      go_ret2
      exact ⟨by rw [HV.out]; rfl, HB1.out⟩
  | true =>
    have HV : Hid (daI G I D n = 1 + n / D * (1 + I + D) + 1 + I + n % D) := Hid.mk (if_pos hb)
    have hb2 := hb
    simp [daB] at hb2
    obtain ⟨hg, hn0, hnG⟩ := hb2
    have hgb := good_iff.1 hg
    rw [hb] at hda
    simp at hda
    have h1 : ¬ n < 0 := by omega
    have h2 : ¬ q ≤ n := by omega
    have t1 : n.tdiv D = n / D := Int.tdiv_eq_ediv_of_nonneg (by omega)
    have t2 : n.tmod D = n % D := Int.tmod_eq_emod_of_nonneg (by omega)
    obtain ⟨e1, e2, e3⟩ := divmod_of n D (by omega)
    have d1 : 0 ≤ n / D := div_nonneg (by omega) (by omega)
    have d2 : n / D < G := div_lt (by omega) hnG
    obtain ⟨k, ek⟩ : ∃ k, n / D = k := ⟨_, rfl⟩
    obtain ⟨r, er⟩ : ∃ r, n % D = r := ⟨_, rfl⟩
    rw [ek] at t1 HV d1 d2
    rw [er] at t2 HV e2 e3
    have m2 := mul_fits (a := k) (A := 8) (b := 1 + I + D) (B := 1005) (by omega) (by omega) (by omega) (by omega)
    have H17 := Hid.mk (fun w => rhead_any w G I D k)
    obtain ⟨f1, f2⟩ := hd_yes hg d1 d2
    rw [f1, f2] at H17
    obtain ⟨m, em⟩ : ∃ m, 1 + k * (1 + I + D) = m := ⟨_, rfl⟩
    rw [em] at H17 HV
    have w0' : IntKind.i64.wrap k = k := by rw [IntKind.wrap_i64]; omega
    have w1' : IntKind.i64.wrap (m + 1) = m + 1 := by rw [IntKind.wrap_i64]; omega
    have w2' : IntKind.i64.wrap (m + 1 + I) = m + 1 + I := by rw [IntKind.wrap_i64]; omega
    have w3' : IntKind.i64.wrap (m + 1 + I + r) = m + 1 + I + r := by rw [IntKind.wrap_i64]; omega
    have w4' : IntKind.i64.wrap r = r := by rw [IntKind.wrap_i64]; omega
    have z1 : ¬ D = 0 := by omega
    clear hb hg hgb ek er hn0 hnG hda e1 e2 e3 d1 d2 m2 em f1 f2
    go_enter Try.func25, Try.ntmps25
    go_wp2_with (go_at_call 23; refine (HI.out _).mono ?_; rintro e w1 ⟨rfl, hB⟩; obtain ⟨hG1, hB1⟩ := behind hB; obtain ⟨c0, c1, c2⟩ := hG1.g3; have HG1 := Hid.mk hG1; have HB1 := Hid.mk hB1; clear hB hG1 hB1)
    have HK : Hid (∀ W', Below w1.heap.size w1.drew W' → GAt w.heap.size G I D W') := Hid.mk (fun W' hB => GAt.below (W := w1.drew) HG1.out hB HG1.out.lt)
    clear c0 c1 c2
    refine wp_region_held_drew (S := G3 w.heap.size G I D) (by kernel_rfl) (HK.out _ (Below.refl _ _)).g3 (fun hH => ?_)
    change wpAnyH Try.prog Region.Mode.any _ _ _ 11 _ _ _
    refine takeH 0 17 (geo G I D) rfl (by kernel_rfl) (by kernel_rfl) (by kernel_rfl) (by kernel_rfl) (fun _ _ _ h => h) (by kernel_rfl) (fun w hw => by (try dsimp only at hw); go_simp) hH ?_
    simp only [List.setIfInBounds_toArray, List.set_cons_zero, List.set_cons_succ]
    refine takeH 1 18 (.int .i64 (n)) rfl (by kernel_rfl) (by kernel_rfl) (by kernel_rfl) (by kernel_rfl) (fun _ _ _ h => h) (by kernel_rfl) (fun w hw => by kernel_rfl) hH ?_
    simp only [List.setIfInBounds_toArray, List.set_cons_zero, List.set_cons_succ]
    refine takeH 2 19 (.pointer (some ⟨w.heap.size, 2, none⟩)) rfl (by kernel_rfl) (by kernel_rfl) (by kernel_rfl) (by kernel_rfl) (fun _ _ _ h => h) (by kernel_rfl) (fun w hw => by (try dsimp only at hw); go_simp) hH ?_
    simp only [List.setIfInBounds_toArray, List.set_cons_zero, List.set_cons_succ]
    refine takeH 3 20 (.int .i64 (D)) rfl (by kernel_rfl) (by kernel_rfl) (by kernel_rfl) (by kernel_rfl) (fun _ _ _ h => h) (by kernel_rfl) (fun w hw => by (try dsimp only at hw); go_simp) hH ?_
    simp only [List.setIfInBounds_toArray, List.set_cons_zero, List.set_cons_succ]
    refine takeH 4 21 (.int .i64 (k)) rfl (by kernel_rfl) (by kernel_rfl) (by kernel_rfl) (by kernel_rfl) (fun _ _ _ h => h) (by kernel_rfl) (fun w hw => by (try dsimp only at hw); go_simp) hH ?_
    simp only [List.setIfInBounds_toArray, List.set_cons_zero, List.set_cons_succ]
    refine stepH_call 5 22 rfl (by kernel_rfl) (by kernel_rfl) (by kernel_rfl) 36 #[.tmp 17, .tmp 21] #[23, 3] (by kernel_rfl) (enters_of Try.func36 (by kernel_rfl) rfl) #[geo G I D, .int .i64 (k)] (by kernel_rfl) (H17.out _) ?_
    rintro e w5 ⟨rfl, hB5⟩
    have hH5 := (HK.out w5 hB5).g3
    refine ⟨_, rfl, hH5, ?_⟩
    simp only [List.setIfInBounds_toArray, List.set_cons_zero, List.set_cons_succ]
    refine takeH 6 16 (.tuple #[.int .i64 m, .bool true]) rfl (by kernel_rfl) (by kernel_rfl) (by kernel_rfl) (by kernel_rfl) (fun _ _ _ h => h) (by kernel_rfl) (fun w hw => by kernel_rfl) hH5 ?_
    simp only [List.setIfInBounds_toArray, List.set_cons_zero, List.set_cons_succ]
    refine takeH 7 23 (.int .i64 (m)) rfl (by kernel_rfl) (by kernel_rfl) (by kernel_rfl) (by kernel_rfl) (fun _ _ _ h => h) (by kernel_rfl) (fun w hw => by (try dsimp only at hw); go_simp) hH5 ?_
    simp only [List.setIfInBounds_toArray, List.set_cons_zero, List.set_cons_succ]
    refine takeH 8 24 (.bool true) rfl (by kernel_rfl) (by kernel_rfl) (by kernel_rfl) (by kernel_rfl) (fun _ _ _ h => h) (by kernel_rfl) (fun w hw => by (try dsimp only at hw); go_simp) hH5 ?_
    simp only [List.setIfInBounds_toArray, List.set_cons_zero, List.set_cons_succ]
    refine takeH 9 6 (.int .i64 (m)) rfl (by kernel_rfl) (by kernel_rfl) (by kernel_rfl) (by kernel_rfl) (fun _ _ _ h => h) (by kernel_rfl) (fun w hw => by kernel_rfl) hH5 ?_
    simp only [List.setIfInBounds_toArray, List.set_cons_zero, List.set_cons_succ]
    refine takeH 10 7 (.bool true) rfl (by kernel_rfl) (by kernel_rfl) (by kernel_rfl) (by kernel_rfl) (fun _ _ _ h => h) (by kernel_rfl) (fun w hw => by kernel_rfl) hH5 ?_
    simp only [List.setIfInBounds_toArray, List.set_cons_zero, List.set_cons_succ]
    refine wpAnyH_done (by kernel_rfl) ?_ _
    obtain ⟨c0, c1, c2⟩ := hH5
    have HB5 := Hid.mk hB5
    clear hB5 hH
    go_wp2_with fail
    go_quiet (fail)
    go_wp2
    go_ret2
    exact ⟨by rw [HV.out]; rfl, (HB1.out.drew.trans (HB5.out.mono HB1.out.size)).drewN _⟩
theorem do_tot {G I D b : Int} : doB G I D b = true ↔ 1 ≤ b ∧ b < totI G I D ∧ 1 + I ≤ (b - 1) % (1 + I + D) := by
  rw [do_iff]
  cases hg : good G I D with
  | true => rw [tot_yes hg]; simp
  | false => rw [tot_no hg]; simp; try omega
set_option maxRecDepth 100000 in
set_option maxHeartbeats 4000000 in
theorem rdataof_any (w : World) (G I D b : Int) : Calls Try.prog 24 #[geo G I D, .int .i64 b] w fun e w' => e = .returned (.tuple #[.int .i64 (doI G I D b), .bool (doB G I D b)]) ∧ Below w.heap.size w w' := by
  have HI := Hid.mk (fun w => rtotal_any w G I D)
  have hdo := do_tot (G := G) (I := I) (D := D) (b := b)
  by_cases h1 : b < 1
  · have HV := Hid.mk (do_no (G := G) (I := I) (D := D) (b := b) (fun hh => by have := hdo.1 hh; omega))
    clear hdo
    go_enter Try.func24, Try.ntmps24
    go_wp2
    go_ret2
    exact ⟨by rw [HV.out.1, HV.out.2]; rfl, (Below.refl _ w).alloc (Nat.le_refl _) _⟩
  · by_cases h2 : totI G I D ≤ b
    · have HV := Hid.mk (do_no (G := G) (I := I) (D := D) (b := b) (fun hh => by have := hdo.1 hh; omega))
      clear hdo
      go_enter Try.func24, Try.ntmps24
      go_wp2_with (go_at_call 38; refine (HI.out _).mono ?_; rintro e w1 ⟨rfl, hB⟩; obtain ⟨hG1, hB1⟩ := behind hB; obtain ⟨c0, c1, c2⟩ := hG1.g3; have HG1 := Hid.mk hG1; have HB1 := Hid.mk hB1; clear hB hG1 hB1)
      go_ret2
      exact ⟨by rw [HV.out.1, HV.out.2]; rfl, HB1.out⟩
    · have hg : good G I D = true := by
        cases hg : good G I D with
        | true => rfl
        | false => rw [tot_no hg] at h2; omega
      have hgb := good_iff.1 hg
      have ht := tot_yes hg
      have m3 := mul_fits (a := G) (A := 8) (b := 1 + I + D) (B := 1005) (by omega) (by omega) (by omega) (by omega)
      have H28 := Hid.mk (fun w => per_any w G I D hg)
      have t1 : (b - 1).tdiv (1 + I + D) = (b - 1) / (1 + I + D) := Int.tdiv_eq_ediv_of_nonneg (by omega)
      have t2 : (b - 1).tmod (1 + I + D) = (b - 1) % (1 + I + D) := Int.tmod_eq_emod_of_nonneg (by omega)
      obtain ⟨e1, e2, e3⟩ := divmod_of (b - 1) (1 + I + D) (by omega)
      have d1 : 0 ≤ (b - 1) / (1 + I + D) := div_nonneg (by omega) (by omega)
      have d2 : (b - 1) / (1 + I + D) < G := div_lt (by omega) (by omega)
      have HV : Hid (if 1 + I ≤ (b - 1) % (1 + I + D) then doB G I D b = true ∧ doI G I D b = (b - 1) / (1 + I + D) * D + ((b - 1) % (1 + I + D) - 1 - I) else doB G I D b = false ∧ doI G I D b = 0) := Hid.mk (by
        split
        · next h => have hh := hdo.2 ⟨by omega, by omega, h⟩; exact ⟨hh, do_yes hh⟩
        · next h => exact do_no (fun hh => h (hdo.1 hh).2.2))
      obtain ⟨k, ek⟩ : ∃ k, (b - 1) / (1 + I + D) = k := ⟨_, rfl⟩
      obtain ⟨r, er⟩ : ∃ r, (b - 1) % (1 + I + D) = r := ⟨_, rfl⟩
      rw [ek] at t1 HV d1 d2
      rw [er] at t2 HV e2 e3
      have m2 := mul_fits (a := k) (A := 8) (b := D) (B := 1000) (by omega) (by omega) (by omega) (by omega)
      have w0' : IntKind.i64.wrap (b - 1) = b - 1 := by rw [IntKind.wrap_i64]; omega
      have z1 : ¬ 1 + I + D = 0 := by omega
      have w1' : IntKind.i64.wrap k = k := by rw [IntKind.wrap_i64]; omega
      have w2' : IntKind.i64.wrap r = r := by rw [IntKind.wrap_i64]; omega
      have w3' : IntKind.i64.wrap (r - 1) = r - 1 := by rw [IntKind.wrap_i64]; omega
      have w4' : IntKind.i64.wrap (r - 1 - I) = r - 1 - I := by rw [IntKind.wrap_i64]; omega
      have w5' : IntKind.i64.wrap (k * D) = k * D := by rw [IntKind.wrap_i64]; omega
      have w6' : IntKind.i64.wrap (k * D + (r - 1 - I)) = k * D + (r - 1 - I) := by rw [IntKind.wrap_i64]; omega
      obtain ⟨T, eT⟩ : ∃ T, totI G I D = T := ⟨_, rfl⟩
      rw [eT] at HI h2
      obtain ⟨P, eP⟩ : ∃ P, 1 + I + D = P := ⟨_, rfl⟩
      rw [eP] at H28 t1 t2 z1
      clear hdo hg hgb ht m3 e1 e2 e3 d1 d2 ek er m2 eT eP
      go_enter Try.func24, Try.ntmps24
      go_wp2_with (first | (go_at_call 38; refine (HI.out _).mono ?_; rintro e w1 ⟨rfl, hB⟩; obtain ⟨hG1, hB1⟩ := behind hB; obtain ⟨c0, c1, c2⟩ := hG1.g3; have HG1 := Hid.mk hG1; have HB1 := Hid.mk hB1; clear hB hG1 hB1) | (go_at_call 39; refine (H28.out _).mono ?_; rintro e w3 ⟨rfl, hB3⟩; obtain ⟨hG3, hB3'⟩ := HG1.out.then HB1.out hB3; clear HG1 HB1 c0 c1 c2; obtain ⟨c0, c1, c2⟩ := hG3.g3; have HG1 := Hid.mk hG3; have HB1 := Hid.mk hB3'; clear hB3 hG3 hB3'))
      have HK : Hid (∀ W', Below w3.heap.size w3.drew W' → GAt w.heap.size G I D W') := Hid.mk (fun W' hB => GAt.below (W := w3.drew) HG1.out hB HG1.out.lt)
      clear c0 c1 c2
      refine wp_region_held_drew (S := G3 w.heap.size G I D) (by kernel_rfl) (HK.out _ (Below.refl _ _)).g3 (fun hH => ?_)
      change wpAnyH Try.prog Region.Mode.any _ _ _ 10 _ _ _
      refine takeH 0 21 (.int .i64 (b)) rfl (by kernel_rfl) (by kernel_rfl) (by kernel_rfl) (by kernel_rfl) (fun _ _ _ h => h) (by kernel_rfl) (fun w hw => by kernel_rfl) hH ?_
      simp only [List.setIfInBounds_toArray, List.set_cons_zero, List.set_cons_succ]
      refine takeH 1 22 (.int .i64 (b - 1)) rfl (by kernel_rfl) (by kernel_rfl) (by kernel_rfl) (by kernel_rfl) (fun _ _ _ h => h) (by kernel_rfl) (fun w hw => by (try dsimp only at hw); go_simp) hH ?_
      simp only [List.setIfInBounds_toArray, List.set_cons_zero, List.set_cons_succ]
      refine takeH 2 23 (geo G I D) rfl (by kernel_rfl) (by kernel_rfl) (by kernel_rfl) (by kernel_rfl) (fun _ _ _ h => h) (by kernel_rfl) (fun w hw => by (try dsimp only at hw); go_simp) hH ?_
      simp only [List.setIfInBounds_toArray, List.set_cons_zero, List.set_cons_succ]
      refine takeH 6 27 (.pointer (some ⟨w.heap.size, 1, none⟩)) rfl (by kernel_rfl) (by kernel_rfl) (by kernel_rfl) (by kernel_rfl) (fun _ _ _ h => h) (by kernel_rfl) (fun w hw => by (try dsimp only at hw); go_simp) hH ?_
      simp only [List.setIfInBounds_toArray, List.set_cons_zero, List.set_cons_succ]
      refine takeH 7 28 (.int .i64 (I)) rfl (by kernel_rfl) (by kernel_rfl) (by kernel_rfl) (by kernel_rfl) (fun _ _ _ h => h) (by kernel_rfl) (fun w hw => by (try dsimp only at hw); go_simp) hH ?_
      simp only [List.setIfInBounds_toArray, List.set_cons_zero, List.set_cons_succ]
      refine stepH_call 3 24 rfl (by kernel_rfl) (by kernel_rfl) (by kernel_rfl) 39 #[.tmp 23] #[23] (by kernel_rfl) (enters_of Try.func39 (by kernel_rfl) rfl) #[geo G I D] (by kernel_rfl) (H28.out _) ?_
      rintro e w5 ⟨rfl, hB5⟩
      have hH5 := (HK.out w5 hB5).g3
      refine ⟨_, rfl, hH5, ?_⟩
      simp only [List.setIfInBounds_toArray, List.set_cons_zero, List.set_cons_succ]
      refine takeH 4 25 (.int .i64 (r)) rfl (by kernel_rfl) (by kernel_rfl) (by kernel_rfl) (by kernel_rfl) (fun _ _ _ h => h) (by kernel_rfl) (fun w hw => by (try dsimp only at hw); go_simp) hH5 ?_
      simp only [List.setIfInBounds_toArray, List.set_cons_zero, List.set_cons_succ]
      refine takeH 5 26 (.int .i64 (r - 1)) rfl (by kernel_rfl) (by kernel_rfl) (by kernel_rfl) (by kernel_rfl) (fun _ _ _ h => h) (by kernel_rfl) (fun w hw => by (try dsimp only at hw); go_simp) hH5 ?_
      simp only [List.setIfInBounds_toArray, List.set_cons_zero, List.set_cons_succ]
      refine takeH 8 29 (.int .i64 (r - 1 - I)) rfl (by kernel_rfl) (by kernel_rfl) (by kernel_rfl) (by kernel_rfl) (fun _ _ _ h => h) (by kernel_rfl) (fun w hw => by (try dsimp only at hw); go_simp) hH5 ?_
      simp only [List.setIfInBounds_toArray, List.set_cons_zero, List.set_cons_succ]
      refine takeH 9 7 (.int .i64 (r - 1 - I)) rfl (by kernel_rfl) (by kernel_rfl) (by kernel_rfl) (by kernel_rfl) (fun _ _ _ h => h) (by kernel_rfl) (fun w hw => by kernel_rfl) hH5 ?_
      simp only [List.setIfInBounds_toArray, List.set_cons_zero, List.set_cons_succ]
      refine wpAnyH_done (by kernel_rfl) ?_ _
      obtain ⟨c0, c1, c2⟩ := hH5
      have HB5 := Hid.mk hB5
      clear hB5 hH
      by_cases h3 : 1 + I ≤ r
      · have HV2 := HV.out
        rw [if_pos h3] at HV2
        have HV3 := Hid.mk HV2
        have h4 : ¬ r - 1 - I < 0 := by omega
        clear HV2 HV h3
        go_wp2
        go_ret2
        exact ⟨by rw [HV3.out.1, HV3.out.2]; rfl, HB1.out.drew.trans (HB5.out.mono HB1.out.size)⟩
      · have HV2 := HV.out
        rw [if_neg h3] at HV2
        have HV3 := Hid.mk HV2
        have h4 : r - 1 - I < 0 := by omega
        clear HV2 HV h3
        go_wp2
        go_ret2
        exact ⟨by rw [HV3.out.1, HV3.out.2]; rfl, HB1.out.drew.trans (HB5.out.mono HB1.out.size)⟩
end Go.Proofs.Ytjhfkcngaknbdaa
