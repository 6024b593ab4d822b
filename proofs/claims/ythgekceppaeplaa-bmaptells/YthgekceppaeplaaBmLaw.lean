/-
  The document's example; BmapTells, BmapOnce and BmapBack: their walks.
-/
import Derived.Test.YthgekceppaeplaaBmRef
namespace Go.Proofs.Ythgekceppaeplaa
open Go Go.Proofs Go.RowKit Go.Shelf

theorem mt_example : mtN [0, 8, 264] = 3 := by decide +kernel
set_option maxRecDepth 100000 in
theorem alive_any (w : World) : Calls Try.prog 8 #[] w fun e w' => e = .returned (.bool true) ∧ Below w.heap.size w w' := by
  have HP := Hid.mk (fun W => place_any W 8)
  rw [show plV 8 = .tuple #[.int .i64 1, .int .i64 0, .int .i64 0, .bool true] from rfl] at HP
  have HL : Hid (∀ W : World, LAt (W.alloc (.cells #[.int .i64 0, .int .i64 8, .int .i64 264] 3)) (some ⟨W.heap.size, 0, none⟩) 3 [0, 8, 264]) := Hid.mk (fun W => lat_newi W [0, 8, 264])
  go_enter Try.func8, Try.ntmps8
  go_wp2_with (first
    | (go_at_call 9; refine (HP.out _).mono ?_; rintro e w'' ⟨rfl, hw⟩; subst w'')
    | (go_at_call 15; refine (meta_any _ _ _ _ [0, 8, 264] (HL.out _) (by omega)).mono ?_; rintro e W1 ⟨rfl, hw⟩; rw [mt_example]; have HB := Hid.mk (((Below.refl w.heap.size w).alloc (Nat.le_refl _) _).trans (hw.mono (by simp))); clear hw))
  go_ret
  exact ⟨rfl, HB.out⟩

set_option maxRecDepth 100000 in
set_option maxHeartbeats 4000000 in
theorem tells_any (w : World) (n l i s : Int) : Calls Try.prog 3 #[.int .i64 n, .int .i64 l, .int .i64 i, .int .i64 s] w fun e w' => e = .returned (.bool true) ∧ Below w.heap.size w w' := by
  have HA := Hid.mk (alive_any w)
  have HP := Hid.mk (fun W => place_any W n)
  have HR := Hid.mk (fun W => rplace_any W n)
  have HF := Hid.mk (fun W => first_any W l i)
  have HG := Hid.mk (fun W => rfirst_any W l i)
  have HC := Hid.mk (fun W => count_any W s)
  have HD := Hid.mk (fun W => rcount_any W s)
  unfold plV at HP HR
  unfold fsV at HF HG
  generalize blL n = pL at *
  generalize blX n = pX at *
  generalize blY n = pY at *
  generalize blB n = pB at *
  generalize fsI l i = fI at *
  generalize fsB l i = fB at *
  generalize cnI s = cI at *
  go_enter Try.func3, Try.ntmps3
  go_wp2_with (first
    | (go_at_call 8; refine HA.out.mono ?_; rintro e W0 ⟨rfl, hw⟩; have HB := Hid.mk hw; clear hw)
    | (go_at_call 9; refine (HP.out _).mono ?_; rintro e w'' ⟨rfl, hw⟩; subst w'')
    | (go_at_call 10; refine (HR.out _).mono ?_; rintro e w'' ⟨rfl, hw⟩; subst w'')
    | (go_at_call 11; refine (HF.out _).mono ?_; rintro e w'' ⟨rfl, hw⟩; subst w'')
    | (go_at_call 12; refine (HG.out _).mono ?_; rintro e w'' ⟨rfl, hw⟩; subst w'')
    | (go_at_call 13; refine (HC.out _).mono ?_; rintro e w'' ⟨rfl, hw⟩; subst w'')
    | (go_at_call 14; refine (HD.out _).mono ?_; rintro e w'' ⟨rfl, hw⟩; subst w''))
  go_ret
  exact ⟨rfl, HB.out⟩

set_option maxRecDepth 100000 in
set_option maxHeartbeats 4000000 in
theorem once_any (w : World) (m n : Int) : Calls Try.prog 5 #[.int .i64 m, .int .i64 n] w fun e w' => e = .returned (.bool true) ∧ Below w.heap.size w w' := by
  have HA := Hid.mk (alive_any w)
  have HP := Hid.mk (fun W => place_any W m)
  have HR := Hid.mk (fun W => place_any W n)
  unfold plV at HP HR
  cases hm : blB m with
  | false =>
    rw [hm] at HP
    have h1 := HP.out
    go_enter Try.func5, Try.ntmps5
    go_wp2_with (first
      | (go_at_call 8; refine HA.out.mono ?_; rintro e W0 ⟨rfl, hw⟩; have HB := Hid.mk hw; clear hw)
      | (go_at_call 9; refine (h1 _).mono ?_; clear h1; rintro e w'' ⟨rfl, hw⟩; subst w'')
      | (go_at_call 9; refine (HR.out _).mono ?_; rintro e w'' ⟨rfl, hw⟩; subst w''))
    go_ret
    exact ⟨rfl, HB.out⟩
  | true =>
    cases hn : blB n with
    | false =>
      rw [hm] at HP
      rw [hn] at HR
      have h1 := HP.out
      go_enter Try.func5, Try.ntmps5
      go_wp2_with (first
        | (go_at_call 8; refine HA.out.mono ?_; rintro e W0 ⟨rfl, hw⟩; have HB := Hid.mk hw; clear hw)
        | (go_at_call 9; refine (h1 _).mono ?_; clear h1; rintro e w'' ⟨rfl, hw⟩; subst w'')
        | (go_at_call 9; refine (HR.out _).mono ?_; rintro e w'' ⟨rfl, hw⟩; subst w''))
      go_ret
      exact ⟨rfl, HB.out⟩
    | true =>
      have hb := bl_once hm hn
      rw [hm] at HP
      rw [hn] at HR
      have h1 := HP.out
      by_cases e : m = n
      · subst e
        go_enter Try.func5, Try.ntmps5
        go_wp2_with (first
          | (go_at_call 8; refine HA.out.mono ?_; rintro e W0 ⟨rfl, hw⟩; have HB := Hid.mk hw; clear hw)
          | (go_at_call 9; refine (HR.out _).mono ?_; rintro e w'' ⟨rfl, hw⟩; subst w''))
        go_ret
        exact ⟨rfl, HB.out⟩
      · have e' : (m == n) = false := by simpa using e
        have hne : ¬ (blL m = blL n ∧ blX m = blX n ∧ blY m = blY n) := fun q => e (hb.1 q)
        clear hb hm hn
        generalize blL m = mL at *
        generalize blX m = mX at *
        generalize blY m = mY at *
        generalize blL n = nL at *
        generalize blX n = nX at *
        generalize blY n = nY at *
        by_cases q1 : mL = nL
        · have q1' : (mL == nL) = true := by simpa using q1
          by_cases q2 : mX = nX
          · have q2' : (mX == nX) = true := by simpa using q2
            have q3 : ¬ mY = nY := fun q => hne ⟨q1, q2, q⟩
            have q3' : (mY == nY) = false := by simpa using q3
            subst q1
            subst q2
            clear hne
            go_enter Try.func5, Try.ntmps5
            go_wp2_with (first
              | (go_at_call 8; refine HA.out.mono ?_; rintro e W0 ⟨rfl, hw⟩; have HB := Hid.mk hw; clear hw)
              | (go_at_call 9; refine (h1 _).mono ?_; clear h1; rintro e w'' ⟨rfl, hw⟩; subst w'')
              | (go_at_call 9; refine (HR.out _).mono ?_; rintro e w'' ⟨rfl, hw⟩; subst w''))
            go_ret
            exact ⟨rfl, HB.out⟩
          · have q2' : (mX == nX) = false := by simpa using q2
            subst q1
            clear hne
            go_enter Try.func5, Try.ntmps5
            go_wp2_with (first
              | (go_at_call 8; refine HA.out.mono ?_; rintro e W0 ⟨rfl, hw⟩; have HB := Hid.mk hw; clear hw)
              | (go_at_call 9; refine (h1 _).mono ?_; clear h1; rintro e w'' ⟨rfl, hw⟩; subst w'')
              | (go_at_call 9; refine (HR.out _).mono ?_; rintro e w'' ⟨rfl, hw⟩; subst w''))
            go_ret
            exact ⟨rfl, HB.out⟩
        · have q1' : (mL == nL) = false := by simpa using q1
          clear hne
          go_enter Try.func5, Try.ntmps5
          go_wp2_with (first
            | (go_at_call 8; refine HA.out.mono ?_; rintro e W0 ⟨rfl, hw⟩; have HB := Hid.mk hw; clear hw)
            | (go_at_call 9; refine (h1 _).mono ?_; clear h1; rintro e w'' ⟨rfl, hw⟩; subst w'')
            | (go_at_call 9; refine (HR.out _).mono ?_; rintro e w'' ⟨rfl, hw⟩; subst w''))
          go_ret
          exact ⟨rfl, HB.out⟩

set_option maxRecDepth 100000 in
set_option maxHeartbeats 4000000 in
theorem back_any (w : World) (n : Int) : Calls Try.prog 6 #[.int .i64 n] w fun e w' => e = .returned (.bool true) ∧ Below w.heap.size w w' := by
  have HA := Hid.mk (alive_any w)
  have HP := Hid.mk (fun W => place_any W n)
  by_cases hn : 0 ≤ n ∧ n < 65800
  · rw [pl_yes hn.1 hn.2] at HP
    by_cases h8 : n < 8
    · simp only [if_pos h8, if_pos (show n < 264 by omega)] at HP
      have HF := Hid.mk (fun W => first_any W 0 n)
      rw [fs_0 hn.1 h8] at HF
      go_enter Try.func6, Try.ntmps6
      go_wp2_with (first
        | (go_at_call 8; refine HA.out.mono ?_; rintro e W0 ⟨rfl, hw⟩; have HB := Hid.mk hw; clear hw)
        | (go_at_call 9; refine (HP.out _).mono ?_; rintro e w'' ⟨rfl, hw⟩; subst w'')
        | (go_at_call 11; refine (HF.out _).mono ?_; rintro e w'' ⟨rfl, hw⟩; subst w''))
      go_ret
      exact ⟨rfl, HB.out⟩
    · by_cases h2 : n < 264
      · simp only [if_neg h8, if_pos h2] at HP
        have HF := Hid.mk (fun W => first_any W 1 0)
        rw [fs_1] at HF
        have e1 : IntKind.i64.wrap (8 + (n - 8)) = n := by rw [IntKind.wrap_i64]; omega
        go_enter Try.func6, Try.ntmps6
        go_wp2_with (first
          | (go_at_call 8; refine HA.out.mono ?_; rintro e W0 ⟨rfl, hw⟩; have HB := Hid.mk hw; clear hw)
          | (go_at_call 9; refine (HP.out _).mono ?_; rintro e w'' ⟨rfl, hw⟩; subst w'')
          | (go_at_call 11; refine (HF.out _).mono ?_; rintro e w'' ⟨rfl, hw⟩; subst w''))
        go_ret
        exact ⟨rfl, HB.out⟩
      · simp only [if_neg h8, if_neg h2] at HP
        obtain ⟨q, hq⟩ : ∃ q, q = (n - 264) / 256 := ⟨_, rfl⟩
        obtain ⟨r, hr⟩ : ∃ r, r = (n - 264) % 256 := ⟨_, rfl⟩
        rw [← hq, ← hr] at HP
        have HF := Hid.mk (fun W => first_any W 2 q)
        rw [fs_2 (by omega) (by omega)] at HF
        have e1 : IntKind.i64.wrap (264 + 256 * q + r) = n := by rw [IntKind.wrap_i64]; omega
        have r0 : 0 ≤ r := by omega
        have r1 : r < 256 := by omega
        clear hq hr
        go_enter Try.func6, Try.ntmps6
        go_wp2_with (first
          | (go_at_call 8; refine HA.out.mono ?_; rintro e W0 ⟨rfl, hw⟩; have HB := Hid.mk hw; clear hw)
          | (go_at_call 9; refine (HP.out _).mono ?_; rintro e w'' ⟨rfl, hw⟩; subst w'')
          | (go_at_call 11; refine (HF.out _).mono ?_; rintro e w'' ⟨rfl, hw⟩; subst w''))
        go_ret
        exact ⟨rfl, HB.out⟩
  · rw [pl_no (by omega)] at HP
    go_enter Try.func6, Try.ntmps6
    go_wp2_with (first
      | (go_at_call 8; refine HA.out.mono ?_; rintro e W0 ⟨rfl, hw⟩; have HB := Hid.mk hw; clear hw)
      | (go_at_call 9; refine (HP.out _).mono ?_; rintro e w'' ⟨rfl, hw⟩; subst w''))
    go_ret
    exact ⟨rfl, HB.out⟩
end Go.Proofs.Ythgekceppaeplaa
