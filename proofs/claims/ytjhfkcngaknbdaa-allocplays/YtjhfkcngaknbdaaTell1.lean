/-
  What Total, Inodes, Blocks and Head tell, of the program and of the reference.
-/
import Derived.Test.YtjhfkcngaknbdaaDrawn
namespace Go.Proofs.Ytjhfkcngaknbdaa
open Go Go.Proofs Go.RowKit Go.Shelf
theorem check_yes (w : World) (G I D : Int) (hg : good G I D = true) : Calls Try.prog 26 #[geo G I D] w fun e w' => e = .returned (.int .i64 0) ∧ Below w.heap.size w w' := by
  have h := check_any w G I D
  unfold chk at h
  rwa [if_pos hg] at h
theorem check_no (w : World) (G I D : Int) (hg : good G I D = false) : Calls Try.prog 26 #[geo G I D] w fun e w' => e = .returned (.int .i64 1) ∧ Below w.heap.size w w' := by
  have h := check_any w G I D
  unfold chk at h
  rwa [if_neg (by simp [hg])] at h
theorem good_is (w : World) (G I D : Int) (b : Bool) (hg : good G I D = b) : Calls Try.prog 8 #[geo G I D] w fun e w' => e = .returned (.bool b) ∧ Below w.heap.size w w' := by
  have h := good_any w G I D
  rwa [hg] at h
set_option maxRecDepth 100000 in
/-- A call that took a geometry: what lies behind it. -/
theorem behind {w w1 : World} {G I D : Int} (hB : Below (w.alloc (.cells #[.int .i64 G, .int .i64 I, .int .i64 D] 23)).heap.size (w.alloc (.cells #[.int .i64 G, .int .i64 I, .int .i64 D] 23)) w1) : GAt w.heap.size G I D w1 ∧ Below w.heap.size w w1 :=
  ⟨(GAt.new w G I D).below hB (by simp), ((Below.refl _ w).alloc (Nat.le_refl _) _).trans (hB.mono (by simp))⟩
def totI (G I D : Int) : Int := if good G I D = true then 1 + G * (1 + I + D) else 0
def inoI (G I D : Int) : Int := if good G I D = true then G * (I * 16) else 0
def blkI (G I D : Int) : Int := if good G I D = true then G * D else 0
theorem tot_yes {G I D : Int} (h : good G I D = true) : totI G I D = 1 + G * (1 + I + D) := if_pos h
theorem ino_yes {G I D : Int} (h : good G I D = true) : inoI G I D = G * (I * 16) := if_pos h
theorem blk_yes {G I D : Int} (h : good G I D = true) : blkI G I D = G * D := if_pos h
theorem tot_no {G I D : Int} (h : good G I D = false) : totI G I D = 0 := if_neg (by simp [h])
theorem ino_no {G I D : Int} (h : good G I D = false) : inoI G I D = 0 := if_neg (by simp [h])
theorem blk_no {G I D : Int} (h : good G I D = false) : blkI G I D = 0 := if_neg (by simp [h])
set_option maxRecDepth 100000 in
theorem rtotal_any (w : World) (G I D : Int) : Calls Try.prog 38 #[geo G I D] w fun e w' => e = .returned (.int .i64 (totI G I D)) ∧ Below w.heap.size w w' := by
  cases hg : good G I D with
  | false =>
    have HG := Hid.mk hg
    have HV := Hid.mk (tot_no hg)
    clear hg
    go_enter Try.func38, Try.ntmps38
    go_wp2_with (go_at_call 8; refine (good_is _ G I D false HG.out).mono ?_; rintro e w1 ⟨rfl, hB⟩; obtain ⟨hG1, hB1⟩ := behind hB; obtain ⟨c0, c1, c2⟩ := hG1.g3; have HG1 := Hid.mk hG1; have HB1 := Hid.mk hB1; clear hB hG1 hB1)
    go_ret
    exact ⟨by rw [HV.out]; rfl, HB1.out⟩
  | true =>
    have hb := good_iff.1 hg
    have m1 := mul_fits (a := G) (A := 8) (b := 1 + I + D) (B := 1005) (by omega) (by omega) (by omega) (by omega)
    have m2 := mul_fits (a := G) (A := 8) (b := D) (B := 1000) (by omega) (by omega) (by omega) (by omega)
    have m3 := mul_fits (a := G) (A := 8) (b := I) (B := 4) (by omega) (by omega) (by omega) (by omega)
    have m4 : G * (I * 16) = G * I * 16 := by rw [Int.mul_assoc]
    have HG := Hid.mk hg
    have HV := Hid.mk (tot_yes hg)
    have h1 : IntKind.i64.wrap (G * (1 + I + D)) = G * (1 + I + D) := by rw [IntKind.wrap_i64]; omega
    have h2 : IntKind.i64.wrap (1 + G * (1 + I + D)) = 1 + G * (1 + I + D) := by rw [IntKind.wrap_i64]; omega
    clear hg hb m1 m2 m3 m4
    go_enter Try.func38, Try.ntmps38
    go_wp2_with (go_at_call 8; refine (good_is _ G I D true HG.out).mono ?_; rintro e w1 ⟨rfl, hB⟩; obtain ⟨hG1, hB1⟩ := behind hB; obtain ⟨c0, c1, c2⟩ := hG1.g3; have HG1 := Hid.mk hG1; have HB1 := Hid.mk hB1; clear hB hG1 hB1)
    have HK : Hid (∀ W', Below w1.heap.size w1.drew W' → G3 w.heap.size G I D W') := Hid.mk (fun W' hB => (GAt.below (W := w1.drew) HG1.out hB HG1.out.lt).g3)
    clear c0 c1 c2
    refine wp_region_held_drew (S := G3 w.heap.size G I D) (by kernel_rfl) (HK.out _ (Below.refl _ _)) (fun hH => ?_)
    change wpAnyH Try.prog Region.Mode.any _ _ _ 7 _ _ _
    refine takeH 0 8 (.pointer (some ⟨w.heap.size, 0, none⟩)) rfl (by kernel_rfl) (by kernel_rfl) (by kernel_rfl) (by kernel_rfl) (fun _ _ _ h => h) (by kernel_rfl) (fun w hw => by (try dsimp only at hw); go_simp) hH ?_
    simp only [List.setIfInBounds_toArray, List.set_cons_zero, List.set_cons_succ]
    refine takeH 1 9 (.int .i64 (G)) rfl (by kernel_rfl) (by kernel_rfl) (by kernel_rfl) (by kernel_rfl) (fun _ _ _ h => h) (by kernel_rfl) (fun w hw => by (try dsimp only at hw); go_simp) hH ?_
    simp only [List.setIfInBounds_toArray, List.set_cons_zero, List.set_cons_succ]
    refine takeH 2 10 (geo G I D) rfl (by kernel_rfl) (by kernel_rfl) (by kernel_rfl) (by kernel_rfl) (fun _ _ _ h => h) (by kernel_rfl) (fun w hw => by (try dsimp only at hw); go_simp) hH ?_
    simp only [List.setIfInBounds_toArray, List.set_cons_zero, List.set_cons_succ]
    refine stepH_call 3 11 rfl (by kernel_rfl) (by kernel_rfl) (by kernel_rfl) 39 #[.tmp 10] #[23] (by kernel_rfl) (enters_of Try.func39 (by kernel_rfl) rfl) #[geo G I D] (by kernel_rfl) (per_any _ G I D HG.out) ?_
    rintro e w5 ⟨rfl, hB5⟩
    have hH5 := HK.out w5 hB5
    refine ⟨_, rfl, hH5, ?_⟩
    simp only [List.setIfInBounds_toArray, List.set_cons_zero, List.set_cons_succ]
    refine takeH 4 12 (.int .i64 (G * (1 + I + D))) rfl (by kernel_rfl) (by kernel_rfl) (by kernel_rfl) (by kernel_rfl) (fun _ _ _ h => h) (by kernel_rfl) (fun w hw => by (try dsimp only at hw); go_simp) hH5 ?_
    simp only [List.setIfInBounds_toArray, List.set_cons_zero, List.set_cons_succ]
    refine takeH 5 13 (.int .i64 (1 + G * (1 + I + D))) rfl (by kernel_rfl) (by kernel_rfl) (by kernel_rfl) (by kernel_rfl) (fun _ _ _ h => h) (by kernel_rfl) (fun w hw => by (try dsimp only at hw); go_simp) hH5 ?_
    simp only [List.setIfInBounds_toArray, List.set_cons_zero, List.set_cons_succ]
    refine takeH 6 2 (.int .i64 (1 + G * (1 + I + D))) rfl (by kernel_rfl) (by kernel_rfl) (by kernel_rfl) (by kernel_rfl) (fun _ _ _ h => h) (by kernel_rfl) (fun w hw => by kernel_rfl) hH5 ?_
    simp only [List.setIfInBounds_toArray, List.set_cons_zero, List.set_cons_succ]
    refine wpAnyH_done (by kernel_rfl) ?_ _
    go_wp2
    go_ret
    exact ⟨by rw [HV.out]; rfl, HB1.out.drew.trans (hB5.mono HB1.out.size)⟩
set_option maxRecDepth 100000 in
theorem rinodes_any (w : World) (G I D : Int) : Calls Try.prog 22 #[geo G I D] w fun e w' => e = .returned (.int .i64 (inoI G I D)) ∧ Below w.heap.size w w' := by
  cases hg : good G I D with
  | false =>
    have HG := Hid.mk hg
    have HV := Hid.mk (ino_no hg)
    clear hg
    go_enter Try.func22, Try.ntmps22
    go_wp2_with (go_at_call 8; refine (good_is _ G I D false HG.out).mono ?_; rintro e w1 ⟨rfl, hB⟩; obtain ⟨hG1, hB1⟩ := behind hB; obtain ⟨c0, c1, c2⟩ := hG1.g3; have HG1 := Hid.mk hG1; have HB1 := Hid.mk hB1; clear hB hG1 hB1)
    go_ret
    exact ⟨by rw [HV.out]; rfl, HB1.out⟩
  | true =>
    have hb := good_iff.1 hg
    have m1 := mul_fits (a := G) (A := 8) (b := 1 + I + D) (B := 1005) (by omega) (by omega) (by omega) (by omega)
    have m2 := mul_fits (a := G) (A := 8) (b := D) (B := 1000) (by omega) (by omega) (by omega) (by omega)
    have m3 := mul_fits (a := G) (A := 8) (b := I) (B := 4) (by omega) (by omega) (by omega) (by omega)
    have m4 : G * (I * 16) = G * I * 16 := by rw [Int.mul_assoc]
    have HG := Hid.mk hg
    have HV := Hid.mk (ino_yes hg)
    have h1 : IntKind.i64.wrap (G * I) = G * I := by rw [IntKind.wrap_i64]; omega
    have h2 : IntKind.i64.wrap (G * I * 16) = G * I * 16 := by rw [IntKind.wrap_i64]; omega
    clear hg hb m1 m2 m3
    rw [m4] at HV
    clear m4
    go_enter Try.func22, Try.ntmps22
    go_wp2_with (go_at_call 8; refine (good_is _ G I D true HG.out).mono ?_; rintro e w1 ⟨rfl, hB⟩; obtain ⟨hG1, hB1⟩ := behind hB; obtain ⟨c0, c1, c2⟩ := hG1.g3; have HG1 := Hid.mk hG1; have HB1 := Hid.mk hB1; clear hB hG1 hB1)
    go_ret
    exact ⟨by rw [HV.out]; rfl, HB1.out⟩
set_option maxRecDepth 100000 in
theorem rblocks_any (w : World) (G I D : Int) : Calls Try.prog 23 #[geo G I D] w fun e w' => e = .returned (.int .i64 (blkI G I D)) ∧ Below w.heap.size w w' := by
  cases hg : good G I D with
  | false =>
    have HG := Hid.mk hg
    have HV := Hid.mk (blk_no hg)
    clear hg
    go_enter Try.func23, Try.ntmps23
    go_wp2_with (go_at_call 8; refine (good_is _ G I D false HG.out).mono ?_; rintro e w1 ⟨rfl, hB⟩; obtain ⟨hG1, hB1⟩ := behind hB; obtain ⟨c0, c1, c2⟩ := hG1.g3; have HG1 := Hid.mk hG1; have HB1 := Hid.mk hB1; clear hB hG1 hB1)
    go_ret
    exact ⟨by rw [HV.out]; rfl, HB1.out⟩
  | true =>
    have hb := good_iff.1 hg
    have m1 := mul_fits (a := G) (A := 8) (b := 1 + I + D) (B := 1005) (by omega) (by omega) (by omega) (by omega)
    have m2 := mul_fits (a := G) (A := 8) (b := D) (B := 1000) (by omega) (by omega) (by omega) (by omega)
    have m3 := mul_fits (a := G) (A := 8) (b := I) (B := 4) (by omega) (by omega) (by omega) (by omega)
    have m4 : G * (I * 16) = G * I * 16 := by rw [Int.mul_assoc]
    have HG := Hid.mk hg
    have HV := Hid.mk (blk_yes hg)
    have h1 : IntKind.i64.wrap (G * D) = G * D := by rw [IntKind.wrap_i64]; omega
    clear hg hb m1 m2 m3 m4
    go_enter Try.func23, Try.ntmps23
    go_wp2_with (go_at_call 8; refine (good_is _ G I D true HG.out).mono ?_; rintro e w1 ⟨rfl, hB⟩; obtain ⟨hG1, hB1⟩ := behind hB; obtain ⟨c0, c1, c2⟩ := hG1.g3; have HG1 := Hid.mk hG1; have HB1 := Hid.mk hB1; clear hB hG1 hB1)
    go_ret
    exact ⟨by rw [HV.out]; rfl, HB1.out⟩
def hdB (G I D k : Int) : Bool := good G I D && (decide (0 ≤ k) && decide (k < G))
def hdI (G I D k : Int) : Int := if hdB G I D k = true then 1 + k * (1 + I + D) else 0
theorem hd_yes {G I D k : Int} (hg : good G I D = true) (h0 : 0 ≤ k) (h1 : k < G) : hdB G I D k = true ∧ hdI G I D k = 1 + k * (1 + I + D) := by
  have h : hdB G I D k = true := by simp [hdB, hg, h0, h1]
  exact ⟨h, if_pos h⟩
set_option maxRecDepth 100000 in
theorem hd_no {G I D k : Int} (h : good G I D = false ∨ k < 0 ∨ G ≤ k) : hdB G I D k = false ∧ hdI G I D k = 0 := by
  have h' : hdB G I D k = false := by
    rcases h with h | h | h
    · simp [hdB, h]
    · simp [hdB, show ¬ (0 ≤ k) by omega]
    · simp [hdB, show ¬ (k < G) by omega]
  exact ⟨h', if_neg (by simp [h'])⟩
set_option maxRecDepth 100000 in
theorem head_any (w : World) (G I D k : Int) : Calls Try.prog 34 #[geo G I D, .int .i64 k] w fun e w' => e = .returned (.tuple #[.int .i64 (hdI G I D k), .bool (hdB G I D k)]) ∧ Below w.heap.size w w' := by
  cases hg : good G I D with
  | false =>
    have HG := Hid.mk hg
    have HV := Hid.mk (hd_no (I := I) (k := k) (.inl hg))
    clear hg
    go_enter Try.func34, Try.ntmps34
    go_wp2_with (go_at_call 26; refine (check_no _ G I D HG.out).mono ?_; rintro e w1 ⟨rfl, hB⟩; obtain ⟨hG1, hB1⟩ := behind hB; obtain ⟨c0, c1, c2⟩ := hG1.g3; have HG1 := Hid.mk hG1; have HB1 := Hid.mk hB1; clear hB hG1 hB1)
    go_ret2
    exact ⟨by rw [HV.out.1, HV.out.2]; rfl, HB1.out⟩
  | true =>
    have hb := good_iff.1 hg
    have HG := Hid.mk hg
    have hw0 : IntKind.i64.wrap (G - 1) = G - 1 := by rw [IntKind.wrap_i64]; omega
    cases j1 : decide (0 ≤ k) with
    | false =>
      have h1 : k < 0 := by have := of_decide_eq_false j1; omega
      have HV := Hid.mk (hd_no (G := G) (I := I) (D := D) (.inr (.inl h1)))
      have j2 : decide (k ≤ G - 1) = true := decide_eq_true (by omega)
      clear hg hb
      go_enter Try.func34, Try.ntmps34
      go_wp2_with (first | (go_at_call 26; refine (check_yes _ G I D HG.out).mono ?_; rintro e w1 ⟨rfl, hB⟩; obtain ⟨hG1, hB1⟩ := behind hB; obtain ⟨c0, c1, c2⟩ := hG1.g3; have HG1 := Hid.mk hG1; have HB1 := Hid.mk hB1; clear hB hG1 hB1) | (go_at_call 40; refine (within_any _ _ _ _).mono ?_; rintro e w2 ⟨rfl, hw⟩; subst w2; try rw [j1, j2]))
      go_ret2
      exact ⟨by rw [HV.out.1, HV.out.2]; rfl, HB1.out⟩
    | true =>
      have h0 : 0 ≤ k := of_decide_eq_true j1
      by_cases h1 : k < G
      · have HV := Hid.mk (hd_yes hg h0 h1)
        have h8 : k ≤ 8 := by omega
        have j2 : decide (k ≤ G - 1) = true := decide_eq_true (by omega)
        have hm := mul_fits h0 h8 (b := 1 + I + D) (B := 1005) (by omega) (by omega)
        have h3 : IntKind.i64.wrap (k * (1 + I + D)) = k * (1 + I + D) := by rw [IntKind.wrap_i64]; omega
        have h4 : IntKind.i64.wrap (1 + k * (1 + I + D)) = 1 + k * (1 + I + D) := by rw [IntKind.wrap_i64]; omega
        clear hg hb hm
        go_enter Try.func34, Try.ntmps34
        go_wp2_with (first | (go_at_call 26; refine (check_yes _ G I D HG.out).mono ?_; rintro e w1 ⟨rfl, hB⟩; obtain ⟨hG1, hB1⟩ := behind hB; obtain ⟨c0, c1, c2⟩ := hG1.g3; have HG1 := Hid.mk hG1; have HB1 := Hid.mk hB1; clear hB hG1 hB1) | (go_at_call 40; refine (within_any _ _ _ _).mono ?_; rintro e w2 ⟨rfl, hw⟩; subst w2; try rw [j1, j2]) | (go_at_call 51; refine (headof_any _ G I D k HG.out h0 h8).mono ?_; rintro e w3 ⟨rfl, hB3⟩))
        go_ret2
        exact ⟨by rw [HV.out.1, HV.out.2]; rfl, HB1.out.trans (hB3.mono HB1.out.size)⟩
      · have HV := Hid.mk (hd_no (G := G) (I := I) (D := D) (k := k) (.inr (.inr (by omega))))
        have j2 : decide (k ≤ G - 1) = false := decide_eq_false (by omega)
        have j3 : G ≤ k := by omega
        clear hg hb
        go_enter Try.func34, Try.ntmps34
        go_wp2_with (first | (go_at_call 26; refine (check_yes _ G I D HG.out).mono ?_; rintro e w1 ⟨rfl, hB⟩; obtain ⟨hG1, hB1⟩ := behind hB; obtain ⟨c0, c1, c2⟩ := hG1.g3; have HG1 := Hid.mk hG1; have HB1 := Hid.mk hB1; clear hB hG1 hB1) | (go_at_call 40; refine (within_any _ _ _ _).mono ?_; rintro e w2 ⟨rfl, hw⟩; subst w2; try rw [j1, j2]))
        go_ret2
        exact ⟨by rw [HV.out.1, HV.out.2]; rfl, HB1.out⟩
set_option maxRecDepth 100000 in
theorem rhead_any (w : World) (G I D k : Int) : Calls Try.prog 36 #[geo G I D, .int .i64 k] w fun e w' => e = .returned (.tuple #[.int .i64 (hdI G I D k), .bool (hdB G I D k)]) ∧ Below w.heap.size w w' := by
  cases hg : good G I D with
  | false =>
    have HG := Hid.mk hg
    have HV := Hid.mk (hd_no (I := I) (k := k) (.inl hg))
    clear hg
    go_enter Try.func36, Try.ntmps36
    go_wp2_with (go_at_call 8; refine (good_is _ G I D false HG.out).mono ?_; rintro e w1 ⟨rfl, hB⟩; obtain ⟨hG1, hB1⟩ := behind hB; obtain ⟨c0, c1, c2⟩ := hG1.g3; have HG1 := Hid.mk hG1; have HB1 := Hid.mk hB1; clear hB hG1 hB1)
    go_ret2
    exact ⟨by rw [HV.out.1, HV.out.2]; rfl, HB1.out⟩
  | true =>
    have hb := good_iff.1 hg
    have HG := Hid.mk hg
    have hw0 : IntKind.i64.wrap (G - 1) = G - 1 := by rw [IntKind.wrap_i64]; omega
    cases j1 : decide (0 ≤ k) with
    | false =>
      have h1 : k < 0 := by have := of_decide_eq_false j1; omega
      have HV := Hid.mk (hd_no (G := G) (I := I) (D := D) (.inr (.inl h1)))
      have j2 : decide (k ≤ G - 1) = true := decide_eq_true (by omega)
      clear hg hb
      go_enter Try.func36, Try.ntmps36
      go_wp2_with (first | (go_at_call 8; refine (good_is _ G I D true HG.out).mono ?_; rintro e w1 ⟨rfl, hB⟩; obtain ⟨hG1, hB1⟩ := behind hB; obtain ⟨c0, c1, c2⟩ := hG1.g3; have HG1 := Hid.mk hG1; have HB1 := Hid.mk hB1; clear hB hG1 hB1) | (go_at_call 40; refine (within_any _ _ _ _).mono ?_; rintro e w2 ⟨rfl, hw⟩; subst w2; try rw [j1, j2]))
      go_ret2
      exact ⟨by rw [HV.out.1, HV.out.2]; rfl, HB1.out⟩
    | true =>
      have h0 : 0 ≤ k := of_decide_eq_true j1
      by_cases h1 : k < G
      · have HV := Hid.mk (hd_yes hg h0 h1)
        have h8 : k ≤ 8 := by omega
        have j2 : decide (k ≤ G - 1) = true := decide_eq_true (by omega)
        have hm := mul_fits h0 h8 (b := 1 + I + D) (B := 1005) (by omega) (by omega)
        have h3 : IntKind.i64.wrap (k * (1 + I + D)) = k * (1 + I + D) := by rw [IntKind.wrap_i64]; omega
        have h4 : IntKind.i64.wrap (1 + k * (1 + I + D)) = 1 + k * (1 + I + D) := by rw [IntKind.wrap_i64]; omega
        clear hg hb hm
        go_enter Try.func36, Try.ntmps36
        go_wp2_with (first | (go_at_call 8; refine (good_is _ G I D true HG.out).mono ?_; rintro e w1 ⟨rfl, hB⟩; obtain ⟨hG1, hB1⟩ := behind hB; obtain ⟨c0, c1, c2⟩ := hG1.g3; have HG1 := Hid.mk hG1; have HB1 := Hid.mk hB1; clear hB hG1 hB1) | (go_at_call 40; refine (within_any _ _ _ _).mono ?_; rintro e w2 ⟨rfl, hw⟩; subst w2; try rw [j1, j2]) | (go_at_call 39; refine (per_any _ G I D HG.out).mono ?_; rintro e w3 ⟨rfl, hB3⟩))
        go_ret2
        exact ⟨by rw [HV.out.1, HV.out.2]; rfl, HB1.out.trans (hB3.mono HB1.out.size)⟩
      · have HV := Hid.mk (hd_no (G := G) (I := I) (D := D) (k := k) (.inr (.inr (by omega))))
        have j2 : decide (k ≤ G - 1) = false := decide_eq_false (by omega)
        have j3 : G ≤ k := by omega
        clear hg hb
        go_enter Try.func36, Try.ntmps36
        go_wp2_with (first | (go_at_call 8; refine (good_is _ G I D true HG.out).mono ?_; rintro e w1 ⟨rfl, hB⟩; obtain ⟨hG1, hB1⟩ := behind hB; obtain ⟨c0, c1, c2⟩ := hG1.g3; have HG1 := Hid.mk hG1; have HB1 := Hid.mk hB1; clear hB hG1 hB1) | (go_at_call 40; refine (within_any _ _ _ _).mono ?_; rintro e w2 ⟨rfl, hw⟩; subst w2; try rw [j1, j2]))
        go_ret2
        exact ⟨by rw [HV.out.1, HV.out.2]; rfl, HB1.out⟩
end Go.Proofs.Ytjhfkcngaknbdaa
