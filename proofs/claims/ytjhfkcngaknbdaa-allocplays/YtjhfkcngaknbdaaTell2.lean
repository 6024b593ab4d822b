/-
  What Data, DataOf and Group of the program tell: the loops over the groups.
-/
import Derived.Test.YtjhfkcngaknbdaaPlaces
namespace Go.Proofs.Ytjhfkcngaknbdaa
open Go Go.Proofs Go.RowKit Go.Shelf
theorem no_within {P Q : Prop} [Decidable P] [Decidable Q] (h : ¬ (P ∧ Q)) : (decide P && decide Q) = false := by
  rw [← Bool.decide_and]; exact decide_eq_false h
set_option maxRecDepth 100000 in
set_option maxHeartbeats 4000000 in
theorem wdata_any (w : World) (G I D n : Int) : Calls Try.prog 30 #[geo G I D, .int .i64 n] w fun e w' => e = .returned (.tuple #[.int .i64 (daI G I D n), .bool (daB G I D n)]) ∧ Below w.heap.size w w' := by
  cases hg : good G I D with
  | false =>
    have HG := Hid.mk hg
    have HV := Hid.mk (da_no (I := I) (n := n) (.inl hg))
    clear hg
    go_enter Try.func30, Try.ntmps30
    go_wp2_with (go_at_call 26; refine (check_no _ G I D HG.out).mono ?_; rintro e w1 ⟨rfl, hB⟩; obtain ⟨hG1, hB1⟩ := behind hB; obtain ⟨c0, c1, c2⟩ := hG1.g3; have HG1 := Hid.mk hG1; have HB1 := Hid.mk hB1; clear hB hG1 hB1)
    go_ret2
    exact ⟨by rw [HV.out.1, HV.out.2]; rfl, HB1.out⟩
  | true =>
    have hb := good_iff.1 hg
    have HG := Hid.mk hg
    have HBD := Hid.mk hb
    clear hg hb
    go_enter Try.func30, Try.ntmps30
    go_wp2_with (go_at_call 26; refine (check_yes _ G I D HG.out).mono ?_; rintro e w1 ⟨rfl, hB⟩; obtain ⟨hG1, hB1⟩ := behind hB; obtain ⟨c0, c1, c2⟩ := hG1.g3; have HG1 := Hid.mk hG1; have HB1 := Hid.mk hB1; clear hB hG1 hB1)
    go_loop [13] (fun i => ∃ k : Int, i = .int .i64 k ∧ 0 ≤ k ∧ k ≤ G ∧ (n < 0 ∨ k * D ≤ n)) (fun i => (8 - intOf i).toNat)
    case atStart => exact ⟨0, rfl, by omega, by have := HBD.out; omega, by omega⟩
    case round =>
      obtain ⟨k, rfl, hk0, hkG, hkn⟩ := hrel
      by_cases hk : k < G
      · have hb := HBD.out
        have m1 := mul_fits (a := k) (A := 8) (b := D) (B := 1000) (by omega) (by omega) (by omega) (by omega)
        have m2 := mul_fits (a := k) (A := 8) (b := 1 + I + D) (B := 1005) (by omega) (by omega) (by omega) (by omega)
        have s1 := step_mul k D
        have w1' : IntKind.i64.wrap (k * D) = k * D := by rw [IntKind.wrap_i64]; omega
        have w2' : IntKind.i64.wrap (k * D + D) = k * D + D := by rw [IntKind.wrap_i64]; omega
        have w3' : IntKind.i64.wrap (k * D + D - 1) = k * D + D - 1 := by rw [IntKind.wrap_i64]; omega
        have w4' : IntKind.i64.wrap (k + 1) = k + 1 := by rw [IntKind.wrap_i64]; omega
        by_cases hf : k * D ≤ n ∧ n ≤ k * D + D - 1
        · have HV := Hid.mk (da_at HG.out hk0 hk hf.1 hf.2)
          have j : (decide (k * D ≤ n) && decide (n ≤ k * D + D - 1)) = true := by simp [hf]
          have H31 := Hid.mk (fun w => dataof_any w G I D k HG.out hk0 (by omega))
          obtain ⟨m, em⟩ : ∃ m, 1 + k * (1 + I + D) + 1 + I = m := ⟨_, rfl⟩
          have w5' : IntKind.i64.wrap (m + n) = m + n := by rw [IntKind.wrap_i64]; omega
          have w6' : IntKind.i64.wrap (m + n - k * D) = m + n - k * D := by rw [IntKind.wrap_i64]; omega
          rw [em] at H31 HV
          clear hb m1 m2 s1 em hf hkn
          go_wp2_with (first | (go_at_call 40; refine (within_any _ _ _ _).mono ?_; rintro e w2 ⟨rfl, hw⟩; subst w2; rw [j]) | (go_at_call 46; refine (H31.out _).mono ?_; rintro e w3 ⟨rfl, hB3⟩))
          go_ret2
          exact ⟨by rw [HV.out.1, HV.out.2]; rfl, HB1.out.trans (hB3.mono HB1.out.size)⟩
        · have j := no_within hf
          have HN : Hid (n < 0 ∨ (k + 1) * D ≤ n) := Hid.mk (by omega)
          have HM : Hid (0 ≤ k + 1 ∧ k + 1 ≤ G ∧ k < 8) := Hid.mk (by omega)
          clear hb m1 m2 s1 hf hkn
          go_wp2_with (go_at_call 40; refine (within_any _ _ _ _).mono ?_; rintro e w2 ⟨rfl, hw⟩; subst w2; rw [j])
          go_round
          case rel => exact ⟨k + 1, rfl, HM.out.1, HM.out.2.1, HN.out⟩
          case measure => (have := HM.out; simp [intOf]; omega)
      · obtain rfl : k = G := by omega
        have HV := Hid.mk (da_no (G := k) (I := I) (D := D) (n := n) (.inr (by omega)))
        clear hkn
        go_wp2
        go_ret2
        exact ⟨by rw [HV.out.1, HV.out.2]; rfl, HB1.out⟩
/-- A call behind which the geometry still lies. -/
theorem GAt.then {b : Nat} {G I D : Int} {w0 W W' : World} (h : GAt b G I D W) (hB : Below w0.heap.size w0 W) (hB' : Below W.heap.size W W') : GAt b G I D W' ∧ Below w0.heap.size w0 W' :=
  ⟨h.below hB' h.lt, hB.trans (hB'.mono hB.size)⟩
set_option maxRecDepth 100000 in
set_option maxHeartbeats 4000000 in
theorem wdataof_any (w : World) (G I D b : Int) : Calls Try.prog 49 #[geo G I D, .int .i64 b] w fun e w' => e = .returned (.tuple #[.int .i64 (doI G I D b), .bool (doB G I D b)]) ∧ Below w.heap.size w w' := by
  cases hg : good G I D with
  | false =>
    have HG := Hid.mk hg
    have HV := Hid.mk (do_no (G := G) (I := I) (D := D) (b := b) (fun h => by have := (do_iff.1 h).1; simp [hg] at this))
    clear hg
    go_enter Try.func49, Try.ntmps49
    go_wp2_with (go_at_call 26; refine (check_no _ G I D HG.out).mono ?_; rintro e w1 ⟨rfl, hB⟩; obtain ⟨hG1, hB1⟩ := behind hB; obtain ⟨c0, c1, c2⟩ := hG1.g3; have HG1 := Hid.mk hG1; have HB1 := Hid.mk hB1; clear hB hG1 hB1)
    go_ret2
    exact ⟨by rw [HV.out.1, HV.out.2]; rfl, HB1.out⟩
  | true =>
    have hb := good_iff.1 hg
    have HG := Hid.mk hg
    have HBD := Hid.mk hb
    clear hg hb
    go_enter Try.func49, Try.ntmps49
    go_wp2_with (go_at_call 26; refine (check_yes _ G I D HG.out).mono ?_; rintro e w1 ⟨rfl, hB⟩; obtain ⟨hG1, hB1⟩ := behind hB; obtain ⟨c0, c1, c2⟩ := hG1.g3; have HG1 := Hid.mk hG1; have HB1 := Hid.mk hB1; clear hB hG1 hB1)
    go_loopw [13] (fun i wr => ∃ k : Int, i = .int .i64 k ∧ 0 ≤ k ∧ k ≤ G ∧ (doB G I D b = true → k ≤ (b - 1) / (1 + I + D)) ∧ GAt w.heap.size G I D wr ∧ Below w.heap.size w wr) (fun i _ => (8 - intOf i).toNat)
    case atStart => exact ⟨0, rfl, by omega, by have := HBD.out; omega, fun h => div_nonneg (by have := HBD.out; omega) (by have := (do_iff.1 h).2.1; omega), HG1.out, HB1.out⟩
    case round =>
      obtain ⟨k, rfl, hk0, hkG, hkn, hGr, hBr⟩ := hrel
      clear c0 c1 c2
      obtain ⟨c0, c1, c2⟩ := hGr.g3
      by_cases hk : k < G
      · have hb := HBD.out
        have m1 := mul_fits (a := k) (A := 8) (b := D) (B := 1000) (by omega) (by omega) (by omega) (by omega)
        have m2 := mul_fits (a := k) (A := 8) (b := 1 + I + D) (B := 1005) (by omega) (by omega) (by omega) (by omega)
        have H31 := Hid.mk (fun w => dataof_any w G I D k HG.out hk0 (by omega))
        obtain ⟨m, em⟩ : ∃ m, 1 + k * (1 + I + D) + 1 + I = m := ⟨_, rfl⟩
        have w1' : IntKind.i64.wrap (k * D) = k * D := by rw [IntKind.wrap_i64]; omega
        have w2' : IntKind.i64.wrap (m + D) = m + D := by rw [IntKind.wrap_i64]; omega
        have w3' : IntKind.i64.wrap (m + D - 1) = m + D - 1 := by rw [IntKind.wrap_i64]; omega
        have w4' : IntKind.i64.wrap (k + 1) = k + 1 := by rw [IntKind.wrap_i64]; omega
        have HGr := Hid.mk hGr
        have HBr := Hid.mk hBr
        by_cases hf : m ≤ b ∧ b ≤ m + D - 1
        · have HV := Hid.mk (do_at HG.out hk0 hk (b := b) (by omega) (by omega))
          have j : (decide (m ≤ b) && decide (b ≤ m + D - 1)) = true := by simp [hf]
          have w5' : IntKind.i64.wrap (k * D + b) = k * D + b := by rw [IntKind.wrap_i64]; omega
          have w6' : IntKind.i64.wrap (k * D + b - m) = k * D + b - m := by rw [IntKind.wrap_i64]; omega
          rw [em] at H31 HV
          clear hb m1 m2 em hf hkn hGr hBr
          go_wp2_with (first | (go_at_call 46; refine (H31.out _).mono ?_; rintro e w3 ⟨rfl, hB3⟩; obtain ⟨hG3, hB3'⟩ := HGr.out.then HBr.out hB3; obtain ⟨d0, d1, d2⟩ := hG3.g3; have HB3 := Hid.mk hB3'; clear hB3 hG3 hB3') | (go_at_call 40; refine (within_any _ _ _ _).mono ?_; rintro e w2 ⟨rfl, hw⟩; subst w2; rw [j]))
          go_ret2
          exact ⟨by rw [HV.out.1, HV.out.2]; rfl, HB3.out⟩
        · have j := no_within hf
          have HN := Hid.mk (do_step hkn (by rw [em]; exact hf))
          have HM : Hid (0 ≤ k + 1 ∧ k + 1 ≤ G ∧ k < 8) := Hid.mk (by omega)
          rw [em] at H31
          clear hb m1 m2 em hf hkn hGr hBr
          go_wp2_with (first | (go_at_call 46; refine (H31.out _).mono ?_; rintro e w3 ⟨rfl, hB3⟩; obtain ⟨hG3, hB3'⟩ := HGr.out.then HBr.out hB3; obtain ⟨d0, d1, d2⟩ := hG3.g3; have HG3 := Hid.mk hG3; have HB3 := Hid.mk hB3'; clear hB3 hG3 hB3') | (go_at_call 40; refine (within_any _ _ _ _).mono ?_; rintro e w2 ⟨rfl, hw⟩; subst w2; rw [j]))
          go_roundw
          case rel => exact ⟨k + 1, rfl, HM.out.1, HM.out.2.1, HN.out, HG3.out, HB3.out⟩
          case measure => (have := HM.out; simp [intOf]; omega)
      · obtain rfl : k = G := by omega
        have HV := Hid.mk (do_no (do_end hkn))
        have HBr := Hid.mk hBr
        clear hkn hGr hBr
        go_wp2
        go_ret2
        exact ⟨by rw [HV.out.1, HV.out.2]; rfl, HBr.out⟩
set_option maxRecDepth 100000 in
set_option maxHeartbeats 4000000 in
theorem group_any (w : World) (G I D n : Int) : Calls Try.prog 57 #[geo G I D, .int .i64 n] w fun e w' => e = .returned (.tuple #[.int .i64 (grI G I D n), .int .i64 (grN G I D n), .bool (grB G I D n)]) ∧ Below w.heap.size w w' := by
  cases hg : good G I D with
  | false =>
    have HG := Hid.mk hg
    have hno := gr_not (I := I) (n := n) (.inl hg)
    have HV := Hid.mk (And.intro hno (gr_no hno))
    clear hg hno
    go_enter Try.func57, Try.ntmps57
    go_wp2_with (go_at_call 26; refine (check_no _ G I D HG.out).mono ?_; rintro e w1 ⟨rfl, hB⟩; obtain ⟨hG1, hB1⟩ := behind hB; obtain ⟨c0, c1, c2⟩ := hG1.g3; have HG1 := Hid.mk hG1; have HB1 := Hid.mk hB1; clear hB hG1 hB1)
    go_ret3
    exact ⟨by rw [HV.out.1, HV.out.2.1, HV.out.2.2.1]; rfl, HB1.out⟩
  | true =>
    have hb := good_iff.1 hg
    have HG := Hid.mk hg
    have HBD := Hid.mk hb
    clear hg hb
    go_enter Try.func57, Try.ntmps57
    go_wp2_with (go_at_call 26; refine (check_yes _ G I D HG.out).mono ?_; rintro e w1 ⟨rfl, hB⟩; obtain ⟨hG1, hB1⟩ := behind hB; obtain ⟨c0, c1, c2⟩ := hG1.g3; have HG1 := Hid.mk hG1; have HB1 := Hid.mk hB1; clear hB hG1 hB1)
    go_loopw [14] (fun i wr => ∃ k : Int, i = .int .i64 k ∧ 0 ≤ k ∧ k ≤ G ∧ (n < 1 ∨ 1 + k * (I * 16) ≤ n) ∧ GAt w.heap.size G I D wr ∧ Below w.heap.size w wr) (fun i _ => (8 - intOf i).toNat)
    case atStart => exact ⟨0, rfl, by omega, by have := HBD.out; omega, by omega, HG1.out, HB1.out⟩
    case round =>
      obtain ⟨k, rfl, hk0, hkG, hkn, hGr, hBr⟩ := hrel
      clear c0 c1 c2
      obtain ⟨c0, c1, c2⟩ := hGr.g3
      by_cases hk : k < G
      · have hb := HBD.out
        have m1 := mul_fits (a := k) (A := 8) (b := I * 16) (B := 64) (by omega) (by omega) (by omega) (by omega)
        have s1 := step_mul k (I * 16)
        have H29 := Hid.mk (fun w => ginodes_any w G I D HG.out)
        have HGr := Hid.mk hGr
        have HBr := Hid.mk hBr
        by_cases hf : 1 + k * (I * 16) ≤ n ∧ n ≤ 1 + k * (I * 16) + I * 16 - 1
        · have HV := Hid.mk (gr_at HG.out hk0 hk hf.1 hf.2)
          obtain ⟨q, eq⟩ : ∃ q, I * 16 = q := ⟨_, rfl⟩
          rw [eq] at H29 HV hf m1 s1
          obtain ⟨m, em⟩ : ∃ m, k * q = m := ⟨_, rfl⟩
          rw [em] at HV hf m1 s1
          have w1' : IntKind.i64.wrap (k * q) = m := by rw [IntKind.wrap_i64]; omega
          have w2' : IntKind.i64.wrap (1 + m) = 1 + m := by rw [IntKind.wrap_i64]; omega
          have w3' : IntKind.i64.wrap (1 + m + q) = 1 + m + q := by rw [IntKind.wrap_i64]; omega
          have w4' : IntKind.i64.wrap (1 + m + q - 1) = 1 + m + q - 1 := by rw [IntKind.wrap_i64]; omega
          have w5' : IntKind.i64.wrap (k + 1) = k + 1 := by rw [IntKind.wrap_i64]; omega
          have w6' : IntKind.i64.wrap (n - (1 + m)) = n - (1 + m) := by rw [IntKind.wrap_i64]; omega
          have j : (decide (1 + m ≤ n) && decide (n ≤ 1 + m + q - 1)) = true := by simp [hf]
          clear hb m1 s1 em eq hf hkn hGr hBr
          go_wp2_with (first | (go_at_call 63; refine (H29.out _).mono ?_; rintro e w3 ⟨rfl, hB3⟩; obtain ⟨hG3, hB3'⟩ := HGr.out.then HBr.out hB3; clear HGr HBr c0 c1 c2; obtain ⟨c0, c1, c2⟩ := hG3.g3; have HGr := Hid.mk hG3; have HBr := Hid.mk hB3'; clear hB3 hG3 hB3') | (go_at_call 40; refine (within_any _ _ _ _).mono ?_; rintro e w2 ⟨rfl, hw⟩; subst w2; rw [j]))
          go_ret3
          exact ⟨by rw [HV.out.1, HV.out.2.1, HV.out.2.2]; rfl, HBr.out⟩
        · have HN : Hid (n < 1 ∨ 1 + (k + 1) * (I * 16) ≤ n) := Hid.mk (by omega)
          have HM : Hid (0 ≤ k + 1 ∧ k + 1 ≤ G ∧ k < 8) := Hid.mk (by omega)
          obtain ⟨q, eq⟩ : ∃ q, I * 16 = q := ⟨_, rfl⟩
          rw [eq] at H29 hf m1 s1
          obtain ⟨m, em⟩ : ∃ m, k * q = m := ⟨_, rfl⟩
          rw [em] at hf m1 s1
          have w1' : IntKind.i64.wrap (k * q) = m := by rw [IntKind.wrap_i64]; omega
          have w2' : IntKind.i64.wrap (1 + m) = 1 + m := by rw [IntKind.wrap_i64]; omega
          have w3' : IntKind.i64.wrap (1 + m + q) = 1 + m + q := by rw [IntKind.wrap_i64]; omega
          have w4' : IntKind.i64.wrap (1 + m + q - 1) = 1 + m + q - 1 := by rw [IntKind.wrap_i64]; omega
          have w5' : IntKind.i64.wrap (k + 1) = k + 1 := by rw [IntKind.wrap_i64]; omega
          have j := no_within hf
          clear hb m1 s1 em eq hf hkn hGr hBr
          go_wp2_with (first | (go_at_call 63; refine (H29.out _).mono ?_; rintro e w3 ⟨rfl, hB3⟩; obtain ⟨hG3, hB3'⟩ := HGr.out.then HBr.out hB3; clear HGr HBr c0 c1 c2; obtain ⟨c0, c1, c2⟩ := hG3.g3; have HGr := Hid.mk hG3; have HBr := Hid.mk hB3'; clear hB3 hG3 hB3') | (go_at_call 40; refine (within_any _ _ _ _).mono ?_; rintro e w2 ⟨rfl, hw⟩; subst w2; rw [j]))
          go_roundw
          case rel => exact ⟨k + 1, rfl, HM.out.1, HM.out.2.1, HN.out, HGr.out, HBr.out⟩
          case measure => (have := HM.out; simp [intOf]; omega)
      · obtain rfl : k = G := by omega
        have hno := gr_not (G := k) (I := I) (D := D) (n := n) (.inr (by omega))
        have HV := Hid.mk (And.intro hno (gr_no hno))
        have HBr := Hid.mk hBr
        clear hkn hGr hBr hno
        go_wp2
        go_ret3
        exact ⟨by rw [HV.out.1, HV.out.2.1, HV.out.2.2.1]; rfl, HBr.out⟩
end Go.Proofs.Ytjhfkcngaknbdaa
