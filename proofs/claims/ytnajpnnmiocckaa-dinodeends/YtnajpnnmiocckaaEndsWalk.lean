/-
  DinodeEnds: which numbers each part of an inode may have.
-/
import Derived.Test.YtnajpnnmiocckaaAlive
namespace Go.Proofs.Ytnajpnnmiocckaa
open Go Go.Proofs Go.RowKit Go.Shelf

theorem NAt.set {b : Nat} {l : List Int} {W : World} (h : NAt b l W) (i : Nat) (y : Int) : NAt b (l.set i y) (W.setCell ⟨b, i, none⟩ (.int .i64 y)) := by
  unfold NAt
  rw [blk_set h, Iy_setArr]
/-- The inode that one number of is turned. -/
def oneL : List Int := [1, 1, 0, 0, 0, 0, 0, 0, 0, 0, 0, 0, 0]
theorem oneL_length : oneL.length = 13 := rfl
theorem fine_links (n : Int) : fineL (oneL.set 1 n) = fitB 65535 n := by
  simp [fineL, oneL, halfL, kindB, fitL, fitB]
theorem fine_word (n : Int) (k : Nat) (h2 : 2 ≤ k) (hk : k < 13) : fineL (oneL.set k n) = fitB 4294967295 n := by
  match k, h2, hk with
  | 2, _, _ => simp [fineL, oneL, halfL, kindB, fitL, fitB]
  | 3, _, _ => simp [fineL, oneL, halfL, kindB, fitL, fitB]
  | 4, _, _ => simp [fineL, oneL, halfL, kindB, fitL, fitB]
  | 5, _, _ => simp [fineL, oneL, halfL, kindB, fitL, fitB]
  | 6, _, _ => simp [fineL, oneL, halfL, kindB, fitL, fitB]
  | 7, _, _ => simp [fineL, oneL, halfL, kindB, fitL, fitB]
  | 8, _, _ => simp [fineL, oneL, halfL, kindB, fitL, fitB]
  | 9, _, _ => simp [fineL, oneL, halfL, kindB, fitL, fitB]
  | 10, _, _ => simp [fineL, oneL, halfL, kindB, fitL, fitB]
  | 11, _, _ => simp [fineL, oneL, halfL, kindB, fitL, fitB]
  | 12, _, _ => simp [fineL, oneL, halfL, kindB, fitL, fitB]
theorem fine_kind (n : Int) (h0 : n ≠ 0) : fineL (oneL.set 0 n) = fitB 2 n := by
  cases h : fitB 2 n with
  | true =>
    have h1 := fitB_iff.1 h
    rcases (show n = 1 ∨ n = 2 by omega) with rfl | rfl <;> decide +kernel
  | false =>
    have h1 := fitB_no.1 h
    have e : kindB n = false := by simp [kindB]; omega
    simp [fineL, oneL, e]
theorem fine_free : fineL ((oneL.set 0 0).set 1 0) = fitB 2 0 := by decide +kernel

set_option maxRecDepth 100000 in
set_option maxHeartbeats 4000000 in
theorem ends_any (w : World) (i n : Int) : Calls Try.prog 6 #[.int .i64 i, .int .i64 n] w fun e w' => e = .returned (.bool true) ∧ Below w.heap.size w w' := by
  obtain ⟨B, hBe⟩ : ∃ B, B = w.heap.size := ⟨_, rfl⟩
  have HBs : Hid (B ≤ w.heap.size) := Hid.mk (by omega)
  have HA := Hid.mk (alive_any w)
  rw [← hBe] at HA ⊢
  clear hBe
  go_enter Try.func6, Try.ntmps6
  go_upto_block 0 with (first
    | (go_at_call 8; refine HA.out.mono ?_; rintro e w1 ⟨rfl, hB⟩; obtain ⟨X, Y, d, hrX, hrY, hD, hBY, hd⟩ := var24 w1 oneL oneL_length; have HRX := Hid.mk hrX; have HRY := Hid.mk hrY; have HD := Hid.mk hD; have HB := Hid.mk (hB.trans (hBY.mono (Nat.le_trans HBs.out hB.size))); have HBd := Hid.mk (show B ≤ d from Nat.le_trans HBs.out (Nat.le_trans hB.size hd)); clear hrX hrY hD hB hBY hd HA)
    | (refine wpL_alloc rfl rfl _ X HRX.out ?_)
    | (refine wpL_store (.tmp 6) (.tmp 14) rfl rfl _ _ Y rfl rfl HRY.out ?_))
  go_cut [7] from 16 to 50 (fun v wx => ∃ l m, v = .int .i64 m ∧ NAt d l wx ∧ l.length = 13 ∧ fineL l = fitB m n ∧ Below B w wx)
  case first =>
    by_cases h0 : i = 0
    · subst h0
      have hc := HD.out.cell 1 (by decide)
      have hf := blk_free HD.out 1
      go_wp2_with fail
      go_meet
      case rel => exact ⟨_, _, rfl, HD.out.set 1 n, by rw [List.length_set]; rfl, fine_links n, HB.out.setCell (p := ⟨d, 1, none⟩) HBd.out _⟩
    · have b0 : (i == 0) = false := by simp [h0]
      by_cases h1 : i = 1
      · subst h1
        have hc := HD.out.cell 2 (by decide)
        have hf := blk_free HD.out 2
        go_wp2_with fail
        go_meet
        case rel => exact ⟨_, _, rfl, HD.out.set 2 n, by rw [List.length_set]; rfl, fine_word n 2 (by omega) (by omega), HB.out.setCell (p := ⟨d, 2, none⟩) HBd.out _⟩
      · have b1 : (i == 1) = false := by simp [h1]
        by_cases h2 : i = 2
        · subst h2
          have hc := HD.out.cell 11 (by decide)
          have hf := blk_free HD.out 11
          go_wp2_with fail
          go_meet
          case rel => exact ⟨_, _, rfl, HD.out.set 11 n, by rw [List.length_set]; rfl, fine_word n 11 (by omega) (by omega), HB.out.setCell (p := ⟨d, 11, none⟩) HBd.out _⟩
        · have b2 : (i == 2) = false := by simp [h2]
          by_cases h3 : i = 3
          · subst h3
            have hc := HD.out.cell 12 (by decide)
            have hf := blk_free HD.out 12
            go_wp2_with fail
            go_meet
            case rel => exact ⟨_, _, rfl, HD.out.set 12 n, by rw [List.length_set]; rfl, fine_word n 12 (by omega) (by omega), HB.out.setCell (p := ⟨d, 12, none⟩) HBd.out _⟩
          · have b3 : (i == 3) = false := by simp [h3]
            by_cases h4 : i = 4
            · subst h4
              have hc := HD.out.cell 3 (by decide)
              have hf := blk_free HD.out 3
              go_wp2_with fail
              go_meet
              case rel => exact ⟨_, _, rfl, HD.out.set 3 n, by rw [List.length_set]; rfl, fine_word n 3 (by omega) (by omega), HB.out.setCell (p := ⟨d, 3, none⟩) HBd.out _⟩
            · have b4 : (i == 4) = false := by simp [h4]
              by_cases h5 : i = 5
              · subst h5
                have hc := HD.out.cell 4 (by decide)
                have hf := blk_free HD.out 4
                go_wp2_with fail
                go_meet
                case rel => exact ⟨_, _, rfl, HD.out.set 4 n, by rw [List.length_set]; rfl, fine_word n 4 (by omega) (by omega), HB.out.setCell (p := ⟨d, 4, none⟩) HBd.out _⟩
              · have b5 : (i == 5) = false := by simp [h5]
                by_cases h6 : i = 6
                · subst h6
                  have hc := HD.out.cell 5 (by decide)
                  have hf := blk_free HD.out 5
                  go_wp2_with fail
                  go_meet
                  case rel => exact ⟨_, _, rfl, HD.out.set 5 n, by rw [List.length_set]; rfl, fine_word n 5 (by omega) (by omega), HB.out.setCell (p := ⟨d, 5, none⟩) HBd.out _⟩
                · have b6 : (i == 6) = false := by simp [h6]
                  by_cases h7 : i = 7
                  · subst h7
                    have hc := HD.out.cell 6 (by decide)
                    have hf := blk_free HD.out 6
                    go_wp2_with fail
                    go_meet
                    case rel => exact ⟨_, _, rfl, HD.out.set 6 n, by rw [List.length_set]; rfl, fine_word n 6 (by omega) (by omega), HB.out.setCell (p := ⟨d, 6, none⟩) HBd.out _⟩
                  · have b7 : (i == 7) = false := by simp [h7]
                    by_cases h8 : i = 8
                    · subst h8
                      have hc := HD.out.cell 7 (by decide)
                      have hf := blk_free HD.out 7
                      go_wp2_with fail
                      go_meet
                      case rel => exact ⟨_, _, rfl, HD.out.set 7 n, by rw [List.length_set]; rfl, fine_word n 7 (by omega) (by omega), HB.out.setCell (p := ⟨d, 7, none⟩) HBd.out _⟩
                    · have b8 : (i == 8) = false := by simp [h8]
                      by_cases h9 : i = 9
                      · subst h9
                        have hc := HD.out.cell 8 (by decide)
                        have hf := blk_free HD.out 8
                        go_wp2_with fail
                        go_meet
                        case rel => exact ⟨_, _, rfl, HD.out.set 8 n, by rw [List.length_set]; rfl, fine_word n 8 (by omega) (by omega), HB.out.setCell (p := ⟨d, 8, none⟩) HBd.out _⟩
                      · have b9 : (i == 9) = false := by simp [h9]
                        by_cases h10 : i = 10
                        · subst h10
                          have hc := HD.out.cell 9 (by decide)
                          have hf := blk_free HD.out 9
                          go_wp2_with fail
                          go_meet
                          case rel => exact ⟨_, _, rfl, HD.out.set 9 n, by rw [List.length_set]; rfl, fine_word n 9 (by omega) (by omega), HB.out.setCell (p := ⟨d, 9, none⟩) HBd.out _⟩
                        · have b10 : (i == 10) = false := by simp [h10]
                          by_cases h11 : i = 11
                          · subst h11
                            have hc := HD.out.cell 10 (by decide)
                            have hf := blk_free HD.out 10
                            go_wp2_with fail
                            go_meet
                            case rel => exact ⟨_, _, rfl, HD.out.set 10 n, by rw [List.length_set]; rfl, fine_word n 10 (by omega) (by omega), HB.out.setCell (p := ⟨d, 10, none⟩) HBd.out _⟩
                          · have b11 : (i == 11) = false := by simp [h11]
                            have hc := HD.out.cell 0 (by decide)
                            have hf := blk_free HD.out 0
                            by_cases hn : n = 0
                            · subst hn
                              have HD1 := Hid.mk (HD.out.set 0 0)
                              have hc1 := HD1.out.cell 1 (by decide)
                              have hf1 := blk_free HD1.out 1
                              go_wp2_with fail
                              go_meet
                              case rel => exact ⟨_, _, rfl, HD1.out.set 1 0, rfl, fine_free, (HB.out.setCell (p := ⟨d, 0, none⟩) HBd.out _).setCell (p := ⟨d, 1, none⟩) HBd.out _⟩
                            · have bn : (n == 0) = false := by simp [hn]
                              go_wp2_with fail
                              go_meet
                              case rel => exact ⟨_, _, rfl, HD.out.set 0 n, by rw [List.length_set]; rfl, fine_kind n hn, HB.out.setCell (p := ⟨d, 0, none⟩) HBd.out _⟩
  case rest =>
    obtain ⟨l, m, rfl, hD, hl, hfe, hB⟩ := hcut
    have HD2 := Hid.mk hD
    have HB2 := Hid.mk hB
    have HFE := Hid.mk hfe
    clear hD hB hfe HD HB HRX HRY
    cases hf : fitB m n with
    | false =>
      have HP := Hid.mk (pack_no wc l hl (by rw [HFE.out, hf]))
      have hno := fitB_no.1 hf
      clear hf HFE
      by_cases h0 : n < 0
      · have g0 : decide (0 ≤ n) = false := decide_eq_false (by omega)
        go_wp2_with (first
          | (refine wpL_load (.tmp 6) rfl rfl d l rfl HD2.out hl ?_)
          | (go_at_call 9; refine HP.out.mono ?_; rintro e w5 ⟨rfl, hB5⟩; have HFIN := Hid.mk (HB2.out.trans (hB5.mono (Nat.le_trans HBs.out HB2.out.size))); clear hB5)
          | (go_at_call 11; refine (num_any _ _).mono ?_; rintro e w3 ⟨rfl, hw⟩; subst w3))
        go_ret
        exact ⟨rfl, HFIN.out⟩
      · have g0 : decide (0 ≤ n) = true := decide_eq_true (by omega)
        have g1 : decide (n ≤ m) = false := decide_eq_false (by omega)
        go_wp2_with (first
          | (refine wpL_load (.tmp 6) rfl rfl d l rfl HD2.out hl ?_)
          | (go_at_call 9; refine HP.out.mono ?_; rintro e w5 ⟨rfl, hB5⟩; have HFIN := Hid.mk (HB2.out.trans (hB5.mono (Nat.le_trans HBs.out HB2.out.size))); clear hB5)
          | (go_at_call 11; refine (num_any _ _).mono ?_; rintro e w3 ⟨rfl, hw⟩; subst w3))
        go_ret
        exact ⟨rfl, HFIN.out⟩
    | true =>
      have hfine : fineL l = true := by rw [HFE.out, hf]
      have HP := Hid.mk (pack_yes wc l hl hfine)
      have hyes := fitB_iff.1 hf
      have HRD : Hid (∀ W g, RAt W g (inoL l) → Calls Try.prog 12 #[.slice (some ⟨g, 0, none⟩) 64 64] W fun e w' => e = .returned (.tuple #[inoV l, .int .i64 0]) ∧ Below W.heap.size W w') := Hid.mk (fun W g hr => by
        have h := read_any W (some ⟨g, 0, none⟩) 64 64 (inoL l) (hr.full (inoL_length l hl)) (inoL_bound l) (by omega) (by omega)
        rwa [(ino_reads hl hfine).2.1, (ino_reads hl hfine).2.2] at h)
      have g0 : decide (0 ≤ n) = true := decide_eq_true hyes.1
      have g1 : decide (n ≤ m) = true := decide_eq_true hyes.2
      clear hf HFE hfine
      go_wp2_with (first
        | (refine wpL_load (.tmp 6) rfl rfl d l rfl HD2.out hl ?_)
        | (go_at_call 9; refine HP.out.mono ?_; rintro e w5 ⟨g, rfl, hrow, hge, hB5⟩; have HD5 := Hid.mk (HD2.out.below hB5 HD2.out.lt); have HB5 := Hid.mk (HB2.out.trans (hB5.mono (Nat.le_trans HBs.out HB2.out.size))); have HRW := Hid.mk hrow; clear hB5 hrow hge HD2 HB2)
        | (go_at_call 11; refine (num_any _ _).mono ?_; rintro e w3 ⟨rfl, hw⟩; subst w3)
        | (go_at_call 12; refine (HRD.out _ _ HRW.out).mono ?_; rintro e w6 ⟨rfl, hB6⟩; obtain ⟨X6, Y6, d6, hrX, hrY, hD6, hBY, hd⟩ := var24 w6 l hl; have HD7 := Hid.mk ((HD5.out.below hB6 HD5.out.lt).below hBY (Nat.lt_of_lt_of_le HD5.out.lt hB6.size)); have HE7 := Hid.mk hD6; have HFIN := Hid.mk ((HB5.out.trans (hB6.mono (Nat.le_trans HBs.out HB5.out.size))).trans (hBY.mono (Nat.le_trans HBs.out (Nat.le_trans HB5.out.size hB6.size)))); have HRX6 := Hid.mk hrX; have HRY6 := Hid.mk hrY; clear hrX hrY hD6 hBY hd hB6 HD5)
        | (refine wpL_alloc rfl rfl _ X6 HRX6.out ?_)
        | (refine wpL_store (.tmp 11) (.tmp 81) rfl rfl _ _ Y6 rfl rfl HRY6.out ?_)
        | (refine wpL_load (.tmp 6) rfl rfl d l rfl HD7.out hl ?_)
        | (refine wpL_load (.tmp 11) rfl rfl d6 l rfl HE7.out hl ?_)
        | (refine wpL_eql (.tmp 90) (.tmp 91) 24 rfl rfl l l true (by simp [eqB]) rfl rfl hl hl ?_))
      go_ret
      exact ⟨rfl, HFIN.out⟩
end Go.Proofs.Ytnajpnnmiocckaa
