/-
  GeomSums of a geometry that may be.
-/
import Derived.Test.YthgdnabonnahaaaSumsNo
namespace Go.Proofs.Ythgdnabonnahaaa
open Go Go.Proofs Go.RowKit Go.Shelf

set_option maxRecDepth 100000 in
set_option maxHeartbeats 8000000 in
theorem sums_yes (w : World) (G I D : Int) (hg : good G I D = true) : Calls Try.prog 5 #[geo G I D] w fun e w' => e = .returned (.bool true) ∧ Below w.heap.size w w' := by
  have HG := Hid.mk hg
  have hb := good_iff.1 hg
  have m1 := mul_fits (a := G) (A := 8) (b := 1 + I + D) (B := 1005) (by omega) (by omega) (by omega) (by omega)
  have m2 := mul_fits (a := G) (A := 8) (b := D) (B := 1000) (by omega) (by omega) (by omega) (by omega)
  have m3 := mul_fits (a := G) (A := 8) (b := I) (B := 4) (by omega) (by omega) (by omega) (by omega)
  have m4 : G * (I * 16) = 16 * G * I := by rw [Int.mul_comm I 16, ← Int.mul_assoc, Int.mul_comm G 16]
  have m5 : 16 * G * I = 16 * (G * I) := Int.mul_assoc _ _ _
  have H10 := Hid.mk (fun w => total_any w G I D)
  have H12 := Hid.mk (fun w => inodes_any w G I D)
  have H14 := Hid.mk (fun w => blocks_any w G I D)
  rw [tot_yes hg] at H10
  rw [ino_yes hg, m4] at H12
  rw [blk_yes hg] at H14
  have H20a : Hid (∀ w : World, Calls Try.prog 20 #[geo G I D, .int .i64 (G * D - 1)] w fun e w' => e = .returned (.tuple #[.int .i64 (G * (1 + I + D)), .bool true]) ∧ Below w.heap.size w w') := Hid.mk (fun w => by
    have h := wdata_any w G I D (G * D - 1)
    have s1 := step_mul (G - 1) D
    have s2 := step_mul (G - 1) (1 + I + D)
    rw [Int.sub_add_cancel] at s1 s2
    obtain ⟨a, b⟩ := da_at (n := G * D - 1) (k := G - 1) hg (by omega) (by omega) (by omega) (by omega)
    rw [a, b, show 1 + (G - 1) * (1 + I + D) + 1 + I + (G * D - 1) - (G - 1) * D = G * (1 + I + D) by omega] at h
    exact h)
  have H20b : Hid (∀ w : World, Calls Try.prog 20 #[geo G I D, .int .i64 (G * D)] w fun e w' => e = .returned (.tuple #[.int .i64 0, .bool false]) ∧ Below w.heap.size w w') := Hid.mk (fun w => by
    have h := wdata_any w G I D (G * D)
    obtain ⟨a, b⟩ := da_no (G := G) (I := I) (D := D) (n := G * D) (.inr (.inr (by omega)))
    rw [a, b] at h
    exact h)
  have H18a : Hid (∀ w : World, Calls Try.prog 18 #[geo G I D, .int .i64 (16 * G * I)] w fun e w' => e = .returned (.tuple #[.int .i64 (iaI G I D (16 * G * I)), .int .i64 (iaO G I D (16 * G * I)), .bool true]) ∧ Below w.heap.size w w') := Hid.mk (fun w => by
    have h := inodeat_any w G I D (16 * G * I)
    have k1 : 1 ≤ G * I := by have := mul_fits (a := G - 1) (A := 8) (b := I) (B := 4) (by omega) (by omega) (by omega) (by omega); rw [Int.sub_mul] at this; omega
    rw [gr_iff.2 ⟨hg, by omega, by omega⟩] at h
    exact h)
  have H18b : Hid (∀ w : World, Calls Try.prog 18 #[geo G I D, .int .i64 (16 * G * I + 1)] w fun e w' => e = .returned (.tuple #[.int .i64 0, .int .i64 0, .bool false]) ∧ Below w.heap.size w w') := Hid.mk (fun w => by
    have h := inodeat_any w G I D (16 * G * I + 1)
    have hn := gr_not (G := G) (I := I) (D := D) (n := 16 * G * I + 1) (.inr (.inr (by omega)))
    rw [hn, (gr_no hn).2.2.1, (gr_no hn).2.2.2] at h
    exact h)
  have h1 := decide_eq_true hb.1
  have h2 := decide_eq_true hb.2.1
  have h3 := decide_eq_true hb.2.2.1
  have h4 := decide_eq_true hb.2.2.2.1
  have h5 := decide_eq_true hb.2.2.2.2.1
  have h6 := decide_eq_true hb.2.2.2.2.2
  have wa : IntKind.i64.wrap (1 + I) = 1 + I := by rw [IntKind.wrap_i64]; omega
  have wb : IntKind.i64.wrap (1 + I + D) = 1 + I + D := by rw [IntKind.wrap_i64]; omega
  have wc : IntKind.i64.wrap (G * (1 + I + D)) = G * (1 + I + D) := by rw [IntKind.wrap_i64]; omega
  have wd : IntKind.i64.wrap (1 + G * (1 + I + D)) = 1 + G * (1 + I + D) := by rw [IntKind.wrap_i64]; omega
  have we : IntKind.i64.wrap (1 + G * (1 + I + D) - 1) = G * (1 + I + D) := by rw [IntKind.wrap_i64]; omega
  have wf : IntKind.i64.wrap (16 * G) = 16 * G := by rw [IntKind.wrap_i64]; omega
  have wg : IntKind.i64.wrap (16 * G * I) = 16 * G * I := by rw [IntKind.wrap_i64]; omega
  have wh : IntKind.i64.wrap (16 * G * I + 1) = 16 * G * I + 1 := by rw [IntKind.wrap_i64]; omega
  have wi : IntKind.i64.wrap (G * D) = G * D := by rw [IntKind.wrap_i64]; omega
  have wj : IntKind.i64.wrap (G * D - 1) = G * D - 1 := by rw [IntKind.wrap_i64]; omega
  obtain ⟨P, eP⟩ : ∃ P, 1 + I + D = P := ⟨_, rfl⟩
  rw [eP] at H10 H20a wb wc wd we
  have wb' : IntKind.i64.wrap (1 + I + D) = P := by rw [eP]; exact wb
  obtain ⟨M, eM⟩ : ∃ M, G * P = M := ⟨_, rfl⟩
  rw [eM] at H10 H20a wd we
  have wc' : IntKind.i64.wrap (G * P) = M := by rw [wc, eM]
  obtain ⟨T, eT⟩ : ∃ T, 1 + M = T := ⟨_, rfl⟩
  rw [eT] at H10 we
  have wd' : IntKind.i64.wrap (1 + M) = T := by rw [wd, eT]
  obtain ⟨A, eA⟩ : ∃ A, 16 * G = A := ⟨_, rfl⟩
  rw [eA] at H12 H18a H18b wg wh
  have wf' : IntKind.i64.wrap (16 * G) = A := by rw [wf, eA]
  obtain ⟨N, eN⟩ : ∃ N, A * I = N := ⟨_, rfl⟩
  rw [eN] at H12 H18a H18b wh
  have wg' : IntKind.i64.wrap (A * I) = N := by rw [wg, eN]
  obtain ⟨Q, eQ⟩ : ∃ Q, G * D = Q := ⟨_, rfl⟩
  rw [eQ] at H14 H20a H20b wj
  have wi' : IntKind.i64.wrap (G * D) = Q := by rw [wi, eQ]
  clear hg hb m1 m2 m3 m4 m5 eP eM eT eA eN eQ wb wc wd wf wg wi
  go_enter Try.func5, Try.ntmps5
  go_wp2_with (first | (go_at_call 6; refine (alive_any _).mono ?_; rintro e w1 ⟨rfl, hB⟩; obtain ⟨hG1, hB1⟩ := behind hB; obtain ⟨c0, c1, c2⟩ := hG1.g3; have HG1 := Hid.mk hG1; have HB1 := Hid.mk hB1; clear hB hG1 hB1) | (go_at_call 8; refine (check_yes _ G I D HG.out).mono ?_; rintro e w1 ⟨rfl, hB⟩; obtain ⟨hG1, hB1⟩ := HG1.out.then HB1.out hB; clear c0 c1 c2 HG1 HB1; obtain ⟨c0, c1, c2⟩ := hG1.g3; have HG1 := Hid.mk hG1; have HB1 := Hid.mk hB1; clear hB hG1 hB1) | (go_at_call 9; refine (num_any _ _).mono ?_; rintro e w2 ⟨rfl, hw⟩; subst w2) | (go_at_call 20; refine (H20a.out _).mono ?_; rintro e w1 ⟨rfl, hB⟩; obtain ⟨hG1, hB1⟩ := HG1.out.then HB1.out hB; clear c0 c1 c2 HG1 HB1; obtain ⟨c0, c1, c2⟩ := hG1.g3; have HG1 := Hid.mk hG1; have HB1 := Hid.mk hB1; clear hB hG1 hB1; clear H20a) | (go_at_call 20; refine (H20b.out _).mono ?_; rintro e w1 ⟨rfl, hB⟩; obtain ⟨hG1, hB1⟩ := HG1.out.then HB1.out hB; clear c0 c1 c2 HG1 HB1; obtain ⟨c0, c1, c2⟩ := hG1.g3; have HG1 := Hid.mk hG1; have HB1 := Hid.mk hB1; clear hB hG1 hB1) | (go_at_call 18; refine (H18a.out _).mono ?_; rintro e w1 ⟨rfl, hB⟩; obtain ⟨hG1, hB1⟩ := HG1.out.then HB1.out hB; clear c0 c1 c2 HG1 HB1; obtain ⟨c0, c1, c2⟩ := hG1.g3; have HG1 := Hid.mk hG1; have HB1 := Hid.mk hB1; clear hB hG1 hB1; clear H18a) | (go_at_call 18; refine (H18b.out _).mono ?_; rintro e w1 ⟨rfl, hB⟩; obtain ⟨hG1, hB1⟩ := HG1.out.then HB1.out hB; clear c0 c1 c2 HG1 HB1; obtain ⟨c0, c1, c2⟩ := hG1.g3; have HG1 := Hid.mk hG1; have HB1 := Hid.mk hB1; clear hB hG1 hB1))
  have HK : Hid (∀ W', Below w1.heap.size w1.drew W' → GAt w.heap.size G I D W') := Hid.mk (fun W' hB => GAt.below (W := w1.drew) HG1.out hB HG1.out.lt)
  have HA := Hid.mk (Below.refl w1.heap.size w1.drew)
  clear c0 c1 c2
  refine wp_region_held_drew (S := G3 w.heap.size G I D) (by kernel_rfl) (HK.out _ (Below.refl _ _)).g3 (fun hH => ?_)
  change wpAnyH Try.prog Region.Mode.any _ _ _ 56 _ _ _
  refine takeH 0 140 (geo G I D) rfl (by kernel_rfl) (by kernel_rfl) (by kernel_rfl) (by kernel_rfl) (fun _ _ _ h => h) (by kernel_rfl) (fun w hw => by (try dsimp only at hw); go_simp) hH ?_
  simp only [List.setIfInBounds_toArray, List.set_cons_zero, List.set_cons_succ]
  refine takeH 2 142 (.pointer (some ⟨w.heap.size, 0, none⟩)) rfl (by kernel_rfl) (by kernel_rfl) (by kernel_rfl) (by kernel_rfl) (fun _ _ _ h => h) (by kernel_rfl) (fun w hw => by (try dsimp only at hw); go_simp) hH ?_
  simp only [List.setIfInBounds_toArray, List.set_cons_zero, List.set_cons_succ]
  refine takeH 3 143 (.int .i64 (G)) rfl (by kernel_rfl) (by kernel_rfl) (by kernel_rfl) (by kernel_rfl) (fun _ _ _ h => h) (by kernel_rfl) (fun w hw => by (try dsimp only at hw); go_simp) hH ?_
  simp only [List.setIfInBounds_toArray, List.set_cons_zero, List.set_cons_succ]
  refine takeH 4 144 (.pointer (some ⟨w.heap.size, 1, none⟩)) rfl (by kernel_rfl) (by kernel_rfl) (by kernel_rfl) (by kernel_rfl) (fun _ _ _ h => h) (by kernel_rfl) (fun w hw => by (try dsimp only at hw); go_simp) hH ?_
  simp only [List.setIfInBounds_toArray, List.set_cons_zero, List.set_cons_succ]
  refine takeH 5 145 (.int .i64 (I)) rfl (by kernel_rfl) (by kernel_rfl) (by kernel_rfl) (by kernel_rfl) (fun _ _ _ h => h) (by kernel_rfl) (fun w hw => by (try dsimp only at hw); go_simp) hH ?_
  simp only [List.setIfInBounds_toArray, List.set_cons_zero, List.set_cons_succ]
  refine takeH 6 146 (.int .i64 (1 + I)) rfl (by kernel_rfl) (by kernel_rfl) (by kernel_rfl) (by kernel_rfl) (fun _ _ _ h => h) (by kernel_rfl) (fun w hw => by (try dsimp only at hw); go_simp) hH ?_
  simp only [List.setIfInBounds_toArray, List.set_cons_zero, List.set_cons_succ]
  refine takeH 7 147 (.pointer (some ⟨w.heap.size, 2, none⟩)) rfl (by kernel_rfl) (by kernel_rfl) (by kernel_rfl) (by kernel_rfl) (fun _ _ _ h => h) (by kernel_rfl) (fun w hw => by (try dsimp only at hw); go_simp) hH ?_
  simp only [List.setIfInBounds_toArray, List.set_cons_zero, List.set_cons_succ]
  refine takeH 8 148 (.int .i64 (D)) rfl (by kernel_rfl) (by kernel_rfl) (by kernel_rfl) (by kernel_rfl) (fun _ _ _ h => h) (by kernel_rfl) (fun w hw => by (try dsimp only at hw); go_simp) hH ?_
  simp only [List.setIfInBounds_toArray, List.set_cons_zero, List.set_cons_succ]
  refine takeH 9 149 (.int .i64 (P)) rfl (by kernel_rfl) (by kernel_rfl) (by kernel_rfl) (by kernel_rfl) (fun _ _ _ h => h) (by kernel_rfl) (fun w hw => by (try dsimp only at hw); go_simp) hH ?_
  simp only [List.setIfInBounds_toArray, List.set_cons_zero, List.set_cons_succ]
  refine takeH 10 150 (.int .i64 (M)) rfl (by kernel_rfl) (by kernel_rfl) (by kernel_rfl) (by kernel_rfl) (fun _ _ _ h => h) (by kernel_rfl) (fun w hw => by (try dsimp only at hw); go_simp) hH ?_
  simp only [List.setIfInBounds_toArray, List.set_cons_zero, List.set_cons_succ]
  refine takeH 11 151 (.int .i64 (T)) rfl (by kernel_rfl) (by kernel_rfl) (by kernel_rfl) (by kernel_rfl) (fun _ _ _ h => h) (by kernel_rfl) (fun w hw => by (try dsimp only at hw); go_simp) hH ?_
  simp only [List.setIfInBounds_toArray, List.set_cons_zero, List.set_cons_succ]
  refine stepH_call 1 141 rfl (by kernel_rfl) (by kernel_rfl) (by kernel_rfl) 10 #[.tmp 140] #[23] (by kernel_rfl) (enters_of Try.func10 (by kernel_rfl) rfl) #[geo G I D] (by kernel_rfl) (H10.out _) ?_
  rintro e w5 ⟨rfl, hB5⟩
  have HA5 := Hid.mk (HA.out.trans (hB5.mono HA.out.size))
  clear HA hB5
  have HA := HA5
  clear HA5 hH
  have hH := (HK.out w5 HA.out).g3
  refine ⟨_, rfl, hH, ?_⟩
  simp only [List.setIfInBounds_toArray, List.set_cons_zero, List.set_cons_succ]
  refine takeH 12 152 (.bool true) rfl (by kernel_rfl) (by kernel_rfl) (by kernel_rfl) (by kernel_rfl) (fun _ _ _ h => h) (by kernel_rfl) (fun w hw => by (try dsimp only at hw); go_simp) hH ?_
  simp only [List.setIfInBounds_toArray, List.set_cons_zero, List.set_cons_succ]
  refine takeH 13 153 (.bool true) rfl (by kernel_rfl) (by kernel_rfl) (by kernel_rfl) (by kernel_rfl) (fun _ _ _ h => h) (by kernel_rfl) (fun w hw => by kernel_rfl) hH ?_
  simp only [List.setIfInBounds_toArray, List.set_cons_zero, List.set_cons_succ]
  refine takeH 14 154 (.bool true) rfl (by kernel_rfl) (by kernel_rfl) (by kernel_rfl) (by kernel_rfl) (fun _ _ _ h => h) (by kernel_rfl) (fun w hw => by kernel_rfl) hH ?_
  simp only [List.setIfInBounds_toArray, List.set_cons_zero, List.set_cons_succ]
  refine takeH 15 155 (.bool true) rfl (by kernel_rfl) (by kernel_rfl) (by kernel_rfl) (by kernel_rfl) (fun _ _ _ h => h) (by kernel_rfl) (fun w hw => by kernel_rfl) hH ?_
  simp only [List.setIfInBounds_toArray, List.set_cons_zero, List.set_cons_succ]
  refine takeH 16 156 (.bool true) rfl (by kernel_rfl) (by kernel_rfl) (by kernel_rfl) (by kernel_rfl) (fun _ _ _ h => h) (by kernel_rfl) (fun w hw => by kernel_rfl) hH ?_
  simp only [List.setIfInBounds_toArray, List.set_cons_zero, List.set_cons_succ]
  refine takeH 17 157 (.int .i64 (M)) rfl (by kernel_rfl) (by kernel_rfl) (by kernel_rfl) (by kernel_rfl) (fun _ _ _ h => h) (by kernel_rfl) (fun w hw => by kernel_rfl) hH ?_
  simp only [List.setIfInBounds_toArray, List.set_cons_zero, List.set_cons_succ]
  refine takeH 18 158 (geo G I D) rfl (by kernel_rfl) (by kernel_rfl) (by kernel_rfl) (by kernel_rfl) (fun _ _ _ h => h) (by kernel_rfl) (fun w hw => by (try dsimp only at hw); go_simp) hH ?_
  simp only [List.setIfInBounds_toArray, List.set_cons_zero, List.set_cons_succ]
  refine stepH_call 19 159 rfl (by kernel_rfl) (by kernel_rfl) (by kernel_rfl) 10 #[.tmp 158] #[23] (by kernel_rfl) (enters_of Try.func10 (by kernel_rfl) rfl) #[geo G I D] (by kernel_rfl) (H10.out _) ?_
  rintro e w5 ⟨rfl, hB5⟩
  have HA5 := Hid.mk (HA.out.trans (hB5.mono HA.out.size))
  clear HA hB5
  have HA := HA5
  clear HA5 hH
  have hH := (HK.out w5 HA.out).g3
  refine ⟨_, rfl, hH, ?_⟩
  simp only [List.setIfInBounds_toArray, List.set_cons_zero, List.set_cons_succ]
  refine takeH 20 160 (.int .i64 (M)) rfl (by kernel_rfl) (by kernel_rfl) (by kernel_rfl) (by kernel_rfl) (fun _ _ _ h => h) (by kernel_rfl) (fun w hw => by (try dsimp only at hw); go_simp) hH ?_
  simp only [List.setIfInBounds_toArray, List.set_cons_zero, List.set_cons_succ]
  refine takeH 21 161 (.bool true) rfl (by kernel_rfl) (by kernel_rfl) (by kernel_rfl) (by kernel_rfl) (fun _ _ _ h => h) (by kernel_rfl) (fun w hw => by (try dsimp only at hw); go_simp) hH ?_
  simp only [List.setIfInBounds_toArray, List.set_cons_zero, List.set_cons_succ]
  refine takeH 22 162 (.bool true) rfl (by kernel_rfl) (by kernel_rfl) (by kernel_rfl) (by kernel_rfl) (fun _ _ _ h => h) (by kernel_rfl) (fun w hw => by kernel_rfl) hH ?_
  simp only [List.setIfInBounds_toArray, List.set_cons_zero, List.set_cons_succ]
  refine takeH 23 163 (.bool true) rfl (by kernel_rfl) (by kernel_rfl) (by kernel_rfl) (by kernel_rfl) (fun _ _ _ h => h) (by kernel_rfl) (fun w hw => by kernel_rfl) hH ?_
  simp only [List.setIfInBounds_toArray, List.set_cons_zero, List.set_cons_succ]
  refine takeH 24 164 (.bool false) rfl (by kernel_rfl) (by kernel_rfl) (by kernel_rfl) (by kernel_rfl) (fun _ _ _ h => h) (by kernel_rfl) (fun w hw => by kernel_rfl) hH ?_
  simp only [List.setIfInBounds_toArray, List.set_cons_zero, List.set_cons_succ]
  refine takeH 25 165 (.bool true) rfl (by kernel_rfl) (by kernel_rfl) (by kernel_rfl) (by kernel_rfl) (fun _ _ _ h => h) (by kernel_rfl) (fun w hw => by (try dsimp only at hw); go_simp) hH ?_
  simp only [List.setIfInBounds_toArray, List.set_cons_zero, List.set_cons_succ]
  refine takeH 26 166 (.bool true) rfl (by kernel_rfl) (by kernel_rfl) (by kernel_rfl) (by kernel_rfl) (fun _ _ _ h => h) (by kernel_rfl) (fun w hw => by kernel_rfl) hH ?_
  simp only [List.setIfInBounds_toArray, List.set_cons_zero, List.set_cons_succ]
  refine takeH 27 167 (.bool true) rfl (by kernel_rfl) (by kernel_rfl) (by kernel_rfl) (by kernel_rfl) (fun _ _ _ h => h) (by kernel_rfl) (fun w hw => by kernel_rfl) hH ?_
  simp only [List.setIfInBounds_toArray, List.set_cons_zero, List.set_cons_succ]
  refine takeH 28 168 (.bool true) rfl (by kernel_rfl) (by kernel_rfl) (by kernel_rfl) (by kernel_rfl) (fun _ _ _ h => h) (by kernel_rfl) (fun w hw => by kernel_rfl) hH ?_
  simp only [List.setIfInBounds_toArray, List.set_cons_zero, List.set_cons_succ]
  refine takeH 29 169 (.bool true) rfl (by kernel_rfl) (by kernel_rfl) (by kernel_rfl) (by kernel_rfl) (fun _ _ _ h => h) (by kernel_rfl) (fun w hw => by kernel_rfl) hH ?_
  simp only [List.setIfInBounds_toArray, List.set_cons_zero, List.set_cons_succ]
  refine takeH 30 170 (.bool true) rfl (by kernel_rfl) (by kernel_rfl) (by kernel_rfl) (by kernel_rfl) (fun _ _ _ h => h) (by kernel_rfl) (fun w hw => by kernel_rfl) hH ?_
  simp only [List.setIfInBounds_toArray, List.set_cons_zero, List.set_cons_succ]
  refine takeH 31 171 (.bool false) rfl (by kernel_rfl) (by kernel_rfl) (by kernel_rfl) (by kernel_rfl) (fun _ _ _ h => h) (by kernel_rfl) (fun w hw => by kernel_rfl) hH ?_
  simp only [List.setIfInBounds_toArray, List.set_cons_zero, List.set_cons_succ]
  refine takeH 32 172 (.bool true) rfl (by kernel_rfl) (by kernel_rfl) (by kernel_rfl) (by kernel_rfl) (fun _ _ _ h => h) (by kernel_rfl) (fun w hw => by (try dsimp only at hw); go_simp) hH ?_
  simp only [List.setIfInBounds_toArray, List.set_cons_zero, List.set_cons_succ]
  refine takeH 33 173 (.bool true) rfl (by kernel_rfl) (by kernel_rfl) (by kernel_rfl) (by kernel_rfl) (fun _ _ _ h => h) (by kernel_rfl) (fun w hw => by kernel_rfl) hH ?_
  simp only [List.setIfInBounds_toArray, List.set_cons_zero, List.set_cons_succ]
  refine takeH 34 174 (.bool true) rfl (by kernel_rfl) (by kernel_rfl) (by kernel_rfl) (by kernel_rfl) (fun _ _ _ h => h) (by kernel_rfl) (fun w hw => by kernel_rfl) hH ?_
  simp only [List.setIfInBounds_toArray, List.set_cons_zero, List.set_cons_succ]
  refine takeH 35 175 (geo G I D) rfl (by kernel_rfl) (by kernel_rfl) (by kernel_rfl) (by kernel_rfl) (fun _ _ _ h => h) (by kernel_rfl) (fun w hw => by (try dsimp only at hw); go_simp) hH ?_
  simp only [List.setIfInBounds_toArray, List.set_cons_zero, List.set_cons_succ]
  refine takeH 37 177 (.pointer (some ⟨w.heap.size, 0, none⟩)) rfl (by kernel_rfl) (by kernel_rfl) (by kernel_rfl) (by kernel_rfl) (fun _ _ _ h => h) (by kernel_rfl) (fun w hw => by (try dsimp only at hw); go_simp) hH ?_
  simp only [List.setIfInBounds_toArray, List.set_cons_zero, List.set_cons_succ]
  refine takeH 38 178 (.int .i64 (G)) rfl (by kernel_rfl) (by kernel_rfl) (by kernel_rfl) (by kernel_rfl) (fun _ _ _ h => h) (by kernel_rfl) (fun w hw => by (try dsimp only at hw); go_simp) hH ?_
  simp only [List.setIfInBounds_toArray, List.set_cons_zero, List.set_cons_succ]
  refine takeH 39 179 (.int .i64 (A)) rfl (by kernel_rfl) (by kernel_rfl) (by kernel_rfl) (by kernel_rfl) (fun _ _ _ h => h) (by kernel_rfl) (fun w hw => by (try dsimp only at hw); go_simp) hH ?_
  simp only [List.setIfInBounds_toArray, List.set_cons_zero, List.set_cons_succ]
  refine takeH 40 180 (.pointer (some ⟨w.heap.size, 1, none⟩)) rfl (by kernel_rfl) (by kernel_rfl) (by kernel_rfl) (by kernel_rfl) (fun _ _ _ h => h) (by kernel_rfl) (fun w hw => by (try dsimp only at hw); go_simp) hH ?_
  simp only [List.setIfInBounds_toArray, List.set_cons_zero, List.set_cons_succ]
  refine takeH 41 181 (.int .i64 (I)) rfl (by kernel_rfl) (by kernel_rfl) (by kernel_rfl) (by kernel_rfl) (fun _ _ _ h => h) (by kernel_rfl) (fun w hw => by (try dsimp only at hw); go_simp) hH ?_
  simp only [List.setIfInBounds_toArray, List.set_cons_zero, List.set_cons_succ]
  refine takeH 42 182 (.int .i64 (N)) rfl (by kernel_rfl) (by kernel_rfl) (by kernel_rfl) (by kernel_rfl) (fun _ _ _ h => h) (by kernel_rfl) (fun w hw => by (try dsimp only at hw); go_simp) hH ?_
  simp only [List.setIfInBounds_toArray, List.set_cons_zero, List.set_cons_succ]
  refine stepH_call 36 176 rfl (by kernel_rfl) (by kernel_rfl) (by kernel_rfl) 12 #[.tmp 175] #[23] (by kernel_rfl) (enters_of Try.func12 (by kernel_rfl) rfl) #[geo G I D] (by kernel_rfl) (H12.out _) ?_
  rintro e w5 ⟨rfl, hB5⟩
  have HA5 := Hid.mk (HA.out.trans (hB5.mono HA.out.size))
  clear HA hB5
  have HA := HA5
  clear HA5 hH
  have hH := (HK.out w5 HA.out).g3
  refine ⟨_, rfl, hH, ?_⟩
  simp only [List.setIfInBounds_toArray, List.set_cons_zero, List.set_cons_succ]
  refine takeH 43 183 (.bool true) rfl (by kernel_rfl) (by kernel_rfl) (by kernel_rfl) (by kernel_rfl) (fun _ _ _ h => h) (by kernel_rfl) (fun w hw => by (try dsimp only at hw); go_simp) hH ?_
  simp only [List.setIfInBounds_toArray, List.set_cons_zero, List.set_cons_succ]
  refine takeH 44 184 (.bool true) rfl (by kernel_rfl) (by kernel_rfl) (by kernel_rfl) (by kernel_rfl) (fun _ _ _ h => h) (by kernel_rfl) (fun w hw => by kernel_rfl) hH ?_
  simp only [List.setIfInBounds_toArray, List.set_cons_zero, List.set_cons_succ]
  refine takeH 45 185 (.bool true) rfl (by kernel_rfl) (by kernel_rfl) (by kernel_rfl) (by kernel_rfl) (fun _ _ _ h => h) (by kernel_rfl) (fun w hw => by kernel_rfl) hH ?_
  simp only [List.setIfInBounds_toArray, List.set_cons_zero, List.set_cons_succ]
  refine takeH 46 186 (geo G I D) rfl (by kernel_rfl) (by kernel_rfl) (by kernel_rfl) (by kernel_rfl) (fun _ _ _ h => h) (by kernel_rfl) (fun w hw => by (try dsimp only at hw); go_simp) hH ?_
  simp only [List.setIfInBounds_toArray, List.set_cons_zero, List.set_cons_succ]
  refine takeH 48 188 (.pointer (some ⟨w.heap.size, 0, none⟩)) rfl (by kernel_rfl) (by kernel_rfl) (by kernel_rfl) (by kernel_rfl) (fun _ _ _ h => h) (by kernel_rfl) (fun w hw => by (try dsimp only at hw); go_simp) hH ?_
  simp only [List.setIfInBounds_toArray, List.set_cons_zero, List.set_cons_succ]
  refine takeH 49 189 (.int .i64 (G)) rfl (by kernel_rfl) (by kernel_rfl) (by kernel_rfl) (by kernel_rfl) (fun _ _ _ h => h) (by kernel_rfl) (fun w hw => by (try dsimp only at hw); go_simp) hH ?_
  simp only [List.setIfInBounds_toArray, List.set_cons_zero, List.set_cons_succ]
  refine takeH 50 190 (.pointer (some ⟨w.heap.size, 2, none⟩)) rfl (by kernel_rfl) (by kernel_rfl) (by kernel_rfl) (by kernel_rfl) (fun _ _ _ h => h) (by kernel_rfl) (fun w hw => by (try dsimp only at hw); go_simp) hH ?_
  simp only [List.setIfInBounds_toArray, List.set_cons_zero, List.set_cons_succ]
  refine takeH 51 191 (.int .i64 (D)) rfl (by kernel_rfl) (by kernel_rfl) (by kernel_rfl) (by kernel_rfl) (fun _ _ _ h => h) (by kernel_rfl) (fun w hw => by (try dsimp only at hw); go_simp) hH ?_
  simp only [List.setIfInBounds_toArray, List.set_cons_zero, List.set_cons_succ]
  refine takeH 52 192 (.int .i64 (Q)) rfl (by kernel_rfl) (by kernel_rfl) (by kernel_rfl) (by kernel_rfl) (fun _ _ _ h => h) (by kernel_rfl) (fun w hw => by (try dsimp only at hw); go_simp) hH ?_
  simp only [List.setIfInBounds_toArray, List.set_cons_zero, List.set_cons_succ]
  refine stepH_call 47 187 rfl (by kernel_rfl) (by kernel_rfl) (by kernel_rfl) 14 #[.tmp 186] #[23] (by kernel_rfl) (enters_of Try.func14 (by kernel_rfl) rfl) #[geo G I D] (by kernel_rfl) (H14.out _) ?_
  rintro e w5 ⟨rfl, hB5⟩
  have HA5 := Hid.mk (HA.out.trans (hB5.mono HA.out.size))
  clear HA hB5
  have HA := HA5
  clear HA5 hH
  have hH := (HK.out w5 HA.out).g3
  refine ⟨_, rfl, hH, ?_⟩
  simp only [List.setIfInBounds_toArray, List.set_cons_zero, List.set_cons_succ]
  refine takeH 53 193 (.bool true) rfl (by kernel_rfl) (by kernel_rfl) (by kernel_rfl) (by kernel_rfl) (fun _ _ _ h => h) (by kernel_rfl) (fun w hw => by (try dsimp only at hw); go_simp) hH ?_
  simp only [List.setIfInBounds_toArray, List.set_cons_zero, List.set_cons_succ]
  refine takeH 54 194 (.bool true) rfl (by kernel_rfl) (by kernel_rfl) (by kernel_rfl) (by kernel_rfl) (fun _ _ _ h => h) (by kernel_rfl) (fun w hw => by kernel_rfl) hH ?_
  simp only [List.setIfInBounds_toArray, List.set_cons_zero, List.set_cons_succ]
  refine takeH 55 2 (.bool true) rfl (by kernel_rfl) (by kernel_rfl) (by kernel_rfl) (by kernel_rfl) (fun _ _ _ h => h) (by kernel_rfl) (fun w hw => by kernel_rfl) hH ?_
  simp only [List.setIfInBounds_toArray, List.set_cons_zero, List.set_cons_succ]
  refine wpAnyH_done (by kernel_rfl) ?_ _
  have HB2 := Hid.mk (HB1.out.drew.trans (HA.out.mono HB1.out.size))
  go_wp2
  go_ret
  exact ⟨rfl, HB2.out⟩

theorem sums_any (w : World) (G I D : Int) : Calls Try.prog 5 #[geo G I D] w fun e w' => e = .returned (.bool true) ∧ Below w.heap.size w w' := by
  cases hg : good G I D with
  | true => exact sums_yes w G I D hg
  | false => exact sums_no w G I D hg
end Go.Proofs.Ythgdnabonnahaaa
