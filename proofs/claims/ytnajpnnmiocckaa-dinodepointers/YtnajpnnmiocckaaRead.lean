/-
  Read of the program.
-/
import Derived.Test.YtnajpnnmiocckaaPack
namespace Go.Proofs.Ytnajpnnmiocckaa
open Go Go.Proofs Go.RowKit Go.Shelf

theorem equal_any (w : World) (ao bo : Option Addr) (n m c d : Nat) (xs ys : List Int) (h1 : BAt w ao n xs) (h2 : BAt w bo m ys) (hx : ∀ x ∈ xs, 0 ≤ x ∧ x ≤ 255) (hy : ∀ x ∈ ys, 0 ≤ x ∧ x ≤ 255) :
    Calls Try.prog 30 #[.slice ao n c, .slice bo m d] w fun e w' => e = .returned (.bool (eqB xs ys)) ∧ w' = w := by
  have c1 := conv_bytes w ao n c xs h1
  have c2 := conv_bytes w bo m d ys h2
  have e := str_eqB xs ys hx hy
  have E := Hid.mk e
  clear e
  go_enter Try.func30, Try.ntmps30
  go_wp2
  go_ret
  exact ⟨by rw [← E.out]; rfl, rfl⟩


theorem pack_no (w : World) (l : List Int) (hl : l.length = 13) (h : fineL l = false) : Calls Try.prog 9 #[inoV l] w fun e w' => e = .returned (.tuple #[.slice none 0 0, .int .i64 1]) ∧ Below w.heap.size w w' := by
  refine (pack_any w l hl).mono ?_
  rintro e w' ⟨hB, ⟨-, rfl⟩ | ⟨h2, -⟩⟩
  · exact ⟨rfl, hB⟩
  · rw [h] at h2; cases h2
theorem pack_yes (w : World) (l : List Int) (hl : l.length = 13) (h : fineL l = true) : Calls Try.prog 9 #[inoV l] w fun e w' => ∃ g, e = .returned (.tuple #[.slice (some ⟨g, 0, none⟩) 64 64, .int .i64 0]) ∧ RAt w' g (inoL l) ∧ w.heap.size ≤ g ∧ Below w.heap.size w w' := by
  refine (pack_any w l hl).mono ?_
  rintro e w' ⟨hB, ⟨h2, -⟩ | ⟨-, g, rfl, h3, h4⟩⟩
  · rw [h] at h2; cases h2
  · exact ⟨g, rfl, h3, h4, hB⟩
theorem BAt.front {W : World} {a : Addr} {n : Nat} {xs : List Int} (h : BAt W (some a) n xs) (m : Nat) (hm : m ≤ n) : BAt W (some a) m (xs.take m) := by
  refine ⟨by simp [h.1]; omega, fun hp => ?_⟩
  obtain ⟨a', e, hlt, hc⟩ := h.2 (by omega)
  refine ⟨a', e, hlt, fun i hi => ?_⟩
  rw [hc i (by omega)]
  simp [List.getD, hi]
theorem alloc24_any (W : World) : ∃ X c, (Instr.alloc 24 true (.tuple #[])).run Try.prog W = .ok (.pointer (some ⟨c, 0, none⟩)) X ∧ NAt c (zeros 13) X ∧ Below W.heap.size W X ∧ W.heap.size ≤ c :=
  ⟨_, _, alloc24_run W, NAt.new W _, (Below.refl _ W).alloc (Nat.le_refl _) _, Nat.le_refl _⟩

theorem read_short (w : World) (ao : Option Addr) (n c : Nat) (hn : n ≠ 64) :
    Calls Try.prog 12 #[.slice ao n c] w fun e w' => e = .returned (.tuple #[inoV (zeros 13), .int .i64 5]) ∧ Below w.heap.size w w' := by
  have h1 : ((n : Int) == 64) = false := by simp; omega
  have h2 : ¬ ((n : Int) = 64) := by omega
  obtain ⟨X, b, hrX, hX, hXB, hXb⟩ := alloc24_any w
  obtain ⟨Y, hrY, hY, hYo⟩ := store24_run (m := zeros 13) hX (zeros_length 13) (zeros_length 13)
  have HRX := Hid.mk hrX
  have HRY := Hid.mk hrY
  have HY := Hid.mk hY
  have HB := Hid.mk (hXB.trans (hYo.below hXB.size (fun k e => by rw [e]; exact hXb)))
  clear hrX hX hXB hrY hY hYo hXb
  go_enter Try.func12, Try.ntmps12
  go_wp2_with (first
    | (refine wpL_alloc rfl rfl _ X HRX.out ?_)
    | (refine wpL_build rfl rfl ?_)
    | (refine wpL_store (.tmp 2) (.tmp 10) rfl rfl _ _ Y rfl rfl HRY.out ?_))
  exact bodyPost_ret (results_cell2 Try.results12 rfl HY.out (zeros_length 13)) rfl ⟨rfl, HB.out⟩

set_option maxRecDepth 100000 in
set_option maxHeartbeats 4000000 in
theorem read_full (w : World) (a : Addr) (c : Nat) (xs : List Int) (h : BAt w (some a) 64 xs) (hx : ∀ x ∈ xs, 0 ≤ x ∧ x ≤ 255) (hc : 64 ≤ c) (hc2 : c ≤ 9223372036854775807) :
    Calls Try.prog 12 #[.slice (some a) 64 c] w fun e w' => e = .returned (.tuple #[inoV (rdL xs), .int .i64 (rdE xs)]) ∧ Below w.heap.size w w' := by
  have hlen := h.1
  have HX := Hid.mk hx
  obtain ⟨W1, b, hrX, hX, hXB, hXb⟩ := alloc24_any w
  obtain ⟨B, hBe⟩ : ∃ B, B = w.heap.size := ⟨_, rfl⟩
  rw [← hBe] at hXB hXb
  have HBA : Hid (∀ W, Below B w W → BAt W (some a) 64 xs) := Hid.mk (fun W hB => h.only (Only.of_new (fun _ => False) (by rw [hBe] at hB; exact hB)) (fun _ _ _ h => h))
  rw [← hBe]
  have HRX := Hid.mk hrX
  have HN1 := Hid.mk hX
  have HB1 := Hid.mk hXB
  have HBb := Hid.mk hXb
  have HBs : Hid (B ≤ w.heap.size) := Hid.mk (by omega)
  clear hrX hX hXB hXb h hx hBe
  have H28 : Hid (∀ W, Below B w W → Calls Try.prog 28 #[.slice (some a) 4 c] W fun e w' => e = .returned (.slice (some ⟨W.heap.size, 0, none⟩) 2 2) ∧ QAt w' W.heap.size (allL 2 (xs.take 4)) ∧ Below W.heap.size W w') := Hid.mk (fun W hB => all16_any W a 4 c (xs.take 4) ((HBA.out W hB).front 4 (by omega)) (take_bound xs HX.out 4) (by omega) (by omega) hc2)
  have H29 : Hid (∀ W, Below B w W → Calls Try.prog 29 #[.slice (some ⟨a.block, a.off + 4, none⟩) 44 (c - 4)] W fun e w' => e = .returned (.slice (some ⟨W.heap.size, 0, none⟩) 11 11) ∧ QAt w' W.heap.size (allL 4 ((xs.drop 4).take 44)) ∧ Below W.heap.size W w') := Hid.mk (fun W hB => all32_any W ⟨a.block, a.off + 4, none⟩ 44 (c - 4) ((xs.drop 4).take 44) (((HBA.out W hB).slice 4 (by omega) (by omega)).front 44 (by omega)) (take_bound _ (drop_bound xs HX.out 4) 44) (by omega) (by omega) (by omega))
  have H27 : Hid (∀ W g1 g2, QAt W g1 (allL 2 (xs.take 4)) → QAt W g2 (allL 4 ((xs.drop 4).take 44)) → Calls Try.prog 27 #[.slice (some ⟨g1, 0, none⟩) 2 2, .slice (some ⟨g2, 0, none⟩) 11 11] W fun e w' => e = .returned (inoV (ofB xs)) ∧ Below W.heap.size W w') := Hid.mk (fun W g1 g2 h1 h2 => inodeof_any W g1 g2 _ _ h1 h2 (by simp [allL_length, hlen]) (by simp [allL_length, hlen]))
  have HOL := Hid.mk (ofB_length xs hlen)
  go_enter Try.func12, Try.ntmps12
  go_upto_region 3 with (refine wpL_alloc rfl rfl _ W1 HRX.out ?_)
  go_cut [4] from 11 to 17 (fun v wx => ∃ d, v = .pointer (some ⟨d, 0, none⟩) ∧ NAt d (ofB xs) wx ∧ NAt b (zeros 13) wx ∧ Below B w wx ∧ b < d)
  case first =>
    refine wp_region_held_drew (S := Below B w) (by kernel_rfl) HB1.out.drew (fun hS => ?_)
    change wpAnyH Try.prog Region.Mode.any _ _ _ 9 _ _ _
    refine takeH 0 11 (.slice (some a) 64 c) rfl (by kernel_rfl) (by kernel_rfl) (by kernel_rfl) (by kernel_rfl) (fun _ _ _ h => h) (by kernel_rfl) (fun w hw => by kernel_rfl) hS ?_
    simp only [List.setIfInBounds_toArray, List.set_cons_zero, List.set_cons_succ]
    refine takeH 1 12 (.slice (some a) 4 c) rfl (by kernel_rfl) (by kernel_rfl) (by kernel_rfl) (by kernel_rfl) (fun _ _ _ h => h) (by kernel_rfl) (fun w hw => by (go_simp; intro hh; omega)) hS ?_
    simp only [List.setIfInBounds_toArray, List.set_cons_zero, List.set_cons_succ]
    refine takeH 3 14 (.slice (some a) 64 c) rfl (by kernel_rfl) (by kernel_rfl) (by kernel_rfl) (by kernel_rfl) (fun _ _ _ h => h) (by kernel_rfl) (fun w hw => by kernel_rfl) hS ?_
    simp only [List.setIfInBounds_toArray, List.set_cons_zero, List.set_cons_succ]
    refine takeH 4 15 (.slice (some ⟨a.block, a.off + 4, none⟩) 44 (c - 4)) rfl (by kernel_rfl) (by kernel_rfl) (by kernel_rfl) (by kernel_rfl) (fun _ _ _ h => h) (by kernel_rfl) (fun w hw => by (go_simp; rw [if_pos (by omega), if_neg (by omega)])) hS ?_
    simp only [List.setIfInBounds_toArray, List.set_cons_zero, List.set_cons_succ]
    have HN : Hid (NAt b (zeros 13) W1.drew) := HN1
    refine stepH_two 2 7 (by kernel_rfl) ?_ ?_
    · refine opH_call 2 13 rfl (by kernel_rfl) (by kernel_rfl) 28 #[.tmp 12] #[26] (by kernel_rfl) (enters_of Try.func28 (by kernel_rfl) rfl) #[.slice (some a) 4 c] (by kernel_rfl) (H28.out _ hS) ?_
      rintro e W11 ⟨rfl, hq, hB⟩
      obtain ⟨g1, hg1⟩ : ∃ g1, g1 = (W1.drew).heap.size := ⟨_, rfl⟩
      rw [← hg1] at hq ⊢
      clear hg1
      have HQ1 := Hid.mk hq
      clear hq
      replace HN := Hid.mk (HN.out.below hB HN.out.lt)
      replace hS := hS.trans (hB.mono (Nat.le_trans HBs.out hS.size))
      clear hB
      refine ⟨_, rfl, hS, ?_⟩
      simp only [List.setIfInBounds_toArray, List.set_cons_zero, List.set_cons_succ]
      refine stepH_two 5 7 (by kernel_rfl) ?_ ?_
      · refine opH_call 5 16 rfl (by kernel_rfl) (by kernel_rfl) 29 #[.tmp 15] #[26] (by kernel_rfl) (enters_of Try.func29 (by kernel_rfl) rfl) #[.slice (some ⟨a.block, a.off + 4, none⟩) 44 (c - 4)] (by kernel_rfl) (H29.out _ hS) ?_
        rintro e W12 ⟨rfl, hq, hB⟩
        replace HQ1 := Hid.mk (HQ1.out.below hB HQ1.out.lt)
        obtain ⟨g2, hg2⟩ : ∃ g2, g2 = (W11).heap.size := ⟨_, rfl⟩
        rw [← hg2] at hq ⊢
        clear hg2
        have HQ2 := Hid.mk hq
        clear hq
        replace HN := Hid.mk (HN.out.below hB HN.out.lt)
        replace hS := hS.trans (hB.mono (Nat.le_trans HBs.out hS.size))
        clear hB
        refine ⟨_, rfl, hS, ?_⟩
        simp only [List.setIfInBounds_toArray, List.set_cons_zero, List.set_cons_succ]
        refine stepH_two 6 7 (by kernel_rfl) ?_ ?_
        · refine opH_call 6 17 rfl (by kernel_rfl) (by kernel_rfl) 27 #[.tmp 13, .tmp 16] #[39, 39] (by kernel_rfl) (enters_of Try.func27 (by kernel_rfl) rfl) #[.slice (some ⟨g1, 0, none⟩) 2 2, .slice (some ⟨g2, 0, none⟩) 11 11] (by kernel_rfl) (H27.out _ _ _ HQ1.out HQ2.out) ?_
          rintro e W13 ⟨rfl, hB⟩
          clear HQ1 HQ2
          replace HN := Hid.mk (HN.out.below hB HN.out.lt)
          replace hS := hS.trans (hB.mono (Nat.le_trans HBs.out hS.size))
          clear hB
          refine ⟨_, rfl, hS, ?_⟩
          simp only [List.setIfInBounds_toArray, List.set_cons_zero, List.set_cons_succ]
          obtain ⟨W14, d, hr, hD, hB, hd⟩ := alloc24_any W13
          have hbd : b < d := Nat.lt_of_lt_of_le HN.out.lt hd
          replace HN := Hid.mk (HN.out.below hB HN.out.lt)
          have HD := Hid.mk hD
          have hS' := hS.trans (hB.mono (Nat.le_trans HBs.out hS.size))
          refine stepH_run 7 4 (.pointer (some ⟨d, 0, none⟩)) W14 rfl (by kernel_rfl) (by kernel_rfl) (by kernel_rfl) (exec_alloc rfl hr) hS' ?_
          clear hS hr hD hB hd
          have hS := hS'
          clear hS'
          simp only [List.setIfInBounds_toArray, List.set_cons_zero, List.set_cons_succ]
          obtain ⟨W15, hr, hD, ho⟩ := store24_run (m := ofB xs) HD.out (zeros_length 13) HOL.out
          have hS2 : Below B w W15 := hS.trans (ho.below (Nat.le_trans HBs.out hS.size) (fun k e => by rw [e]; have := HBb.out; omega))
          have hN2 := HN.out.only ho (by omega)
          have HFIN : Hid (NAt d (ofB xs) W15 ∧ NAt b (zeros 13) W15 ∧ Below B w W15 ∧ b < d) := Hid.mk ⟨hD, hN2, hS2, hbd⟩
          have HR := Hid.mk hr
          clear hD ho hr hN2
          refine stepH_one 8 (by kernel_rfl) ?_
          refine opH_store 8 W15 rfl (by kernel_rfl) (by kernel_rfl) (exec_store (p := .tmp 4) (x := .tmp 17) rfl (by kernel_rfl) (by kernel_rfl) HR.out) hS2 ?_
          refine wpAnyH_done (by kernel_rfl) ?_ _
          clear hS hS2 hbd HR
          go_wp2_with fail
          go_meet
          case rel => exact ⟨d, rfl, HFIN.out⟩
        · obtain ⟨W16, d, hr, hD, hB, hd⟩ := alloc24_any W12
          have hbd : b < d := Nat.lt_of_lt_of_le HN.out.lt hd
          replace HN := Hid.mk (HN.out.below hB HN.out.lt)
          replace HQ1 := Hid.mk (HQ1.out.below hB HQ1.out.lt)
          replace HQ2 := Hid.mk (HQ2.out.below hB HQ2.out.lt)
          have HD := Hid.mk hD
          have hS' := hS.trans (hB.mono (Nat.le_trans HBs.out hS.size))
          refine opH_run 7 4 (.pointer (some ⟨d, 0, none⟩)) W16 rfl (by kernel_rfl) (by kernel_rfl) (exec_alloc rfl hr) hS' ?_
          clear hS hr hD hB hd
          have hS := hS'
          clear hS'
          simp only [List.setIfInBounds_toArray, List.set_cons_zero, List.set_cons_succ]
          refine stepH_call 6 17 rfl (by kernel_rfl) (by kernel_rfl) (by kernel_rfl) 27 #[.tmp 13, .tmp 16] #[39, 39] (by kernel_rfl) (enters_of Try.func27 (by kernel_rfl) rfl) #[.slice (some ⟨g1, 0, none⟩) 2 2, .slice (some ⟨g2, 0, none⟩) 11 11] (by kernel_rfl) (H27.out _ _ _ HQ1.out HQ2.out) ?_
          rintro e W17 ⟨rfl, hB⟩
          clear HQ1 HQ2
          replace HN := Hid.mk (HN.out.below hB HN.out.lt)
          replace HD := Hid.mk (HD.out.below hB HD.out.lt)
          replace hS := hS.trans (hB.mono (Nat.le_trans HBs.out hS.size))
          clear hB
          refine ⟨_, rfl, hS, ?_⟩
          simp only [List.setIfInBounds_toArray, List.set_cons_zero, List.set_cons_succ]
          obtain ⟨W18, hr, hD, ho⟩ := store24_run (m := ofB xs) HD.out (zeros_length 13) HOL.out
          have hS2 : Below B w W18 := hS.trans (ho.below (Nat.le_trans HBs.out hS.size) (fun k e => by rw [e]; have := HBb.out; omega))
          have hN2 := HN.out.only ho (by omega)
          have HFIN : Hid (NAt d (ofB xs) W18 ∧ NAt b (zeros 13) W18 ∧ Below B w W18 ∧ b < d) := Hid.mk ⟨hD, hN2, hS2, hbd⟩
          have HR := Hid.mk hr
          clear hD ho hr hN2
          refine stepH_one 8 (by kernel_rfl) ?_
          refine opH_store 8 W18 rfl (by kernel_rfl) (by kernel_rfl) (exec_store (p := .tmp 4) (x := .tmp 17) rfl (by kernel_rfl) (by kernel_rfl) HR.out) hS2 ?_
          refine wpAnyH_done (by kernel_rfl) ?_ _
          clear hS hS2 hbd HR
          go_wp2_with fail
          go_meet
          case rel => exact ⟨d, rfl, HFIN.out⟩
      · obtain ⟨W19, d, hr, hD, hB, hd⟩ := alloc24_any W11
        have hbd : b < d := Nat.lt_of_lt_of_le HN.out.lt hd
        replace HN := Hid.mk (HN.out.below hB HN.out.lt)
        replace HQ1 := Hid.mk (HQ1.out.below hB HQ1.out.lt)
        have HD := Hid.mk hD
        have hS' := hS.trans (hB.mono (Nat.le_trans HBs.out hS.size))
        refine opH_run 7 4 (.pointer (some ⟨d, 0, none⟩)) W19 rfl (by kernel_rfl) (by kernel_rfl) (exec_alloc rfl hr) hS' ?_
        clear hS hr hD hB hd
        have hS := hS'
        clear hS'
        simp only [List.setIfInBounds_toArray, List.set_cons_zero, List.set_cons_succ]
        refine stepH_call 5 16 rfl (by kernel_rfl) (by kernel_rfl) (by kernel_rfl) 29 #[.tmp 15] #[26] (by kernel_rfl) (enters_of Try.func29 (by kernel_rfl) rfl) #[.slice (some ⟨a.block, a.off + 4, none⟩) 44 (c - 4)] (by kernel_rfl) (H29.out _ hS) ?_
        rintro e W20 ⟨rfl, hq, hB⟩
        replace HQ1 := Hid.mk (HQ1.out.below hB HQ1.out.lt)
        obtain ⟨g2, hg2⟩ : ∃ g2, g2 = (W19).heap.size := ⟨_, rfl⟩
        rw [← hg2] at hq ⊢
        clear hg2
        have HQ2 := Hid.mk hq
        clear hq
        replace HN := Hid.mk (HN.out.below hB HN.out.lt)
        replace HD := Hid.mk (HD.out.below hB HD.out.lt)
        replace hS := hS.trans (hB.mono (Nat.le_trans HBs.out hS.size))
        clear hB
        refine ⟨_, rfl, hS, ?_⟩
        simp only [List.setIfInBounds_toArray, List.set_cons_zero, List.set_cons_succ]
        refine stepH_call 6 17 rfl (by kernel_rfl) (by kernel_rfl) (by kernel_rfl) 27 #[.tmp 13, .tmp 16] #[39, 39] (by kernel_rfl) (enters_of Try.func27 (by kernel_rfl) rfl) #[.slice (some ⟨g1, 0, none⟩) 2 2, .slice (some ⟨g2, 0, none⟩) 11 11] (by kernel_rfl) (H27.out _ _ _ HQ1.out HQ2.out) ?_
        rintro e W21 ⟨rfl, hB⟩
        clear HQ1 HQ2
        replace HN := Hid.mk (HN.out.below hB HN.out.lt)
        replace HD := Hid.mk (HD.out.below hB HD.out.lt)
        replace hS := hS.trans (hB.mono (Nat.le_trans HBs.out hS.size))
        clear hB
        refine ⟨_, rfl, hS, ?_⟩
        simp only [List.setIfInBounds_toArray, List.set_cons_zero, List.set_cons_succ]
        obtain ⟨W22, hr, hD, ho⟩ := store24_run (m := ofB xs) HD.out (zeros_length 13) HOL.out
        have hS2 : Below B w W22 := hS.trans (ho.below (Nat.le_trans HBs.out hS.size) (fun k e => by rw [e]; have := HBb.out; omega))
        have hN2 := HN.out.only ho (by omega)
        have HFIN : Hid (NAt d (ofB xs) W22 ∧ NAt b (zeros 13) W22 ∧ Below B w W22 ∧ b < d) := Hid.mk ⟨hD, hN2, hS2, hbd⟩
        have HR := Hid.mk hr
        clear hD ho hr hN2
        refine stepH_one 8 (by kernel_rfl) ?_
        refine opH_store 8 W22 rfl (by kernel_rfl) (by kernel_rfl) (exec_store (p := .tmp 4) (x := .tmp 17) rfl (by kernel_rfl) (by kernel_rfl) HR.out) hS2 ?_
        refine wpAnyH_done (by kernel_rfl) ?_ _
        clear hS hS2 hbd HR
        go_wp2_with fail
        go_meet
        case rel => exact ⟨d, rfl, HFIN.out⟩
    · obtain ⟨W23, d, hr, hD, hB, hd⟩ := alloc24_any W1.drew
      have hbd : b < d := Nat.lt_of_lt_of_le HN.out.lt hd
      replace HN := Hid.mk (HN.out.below hB HN.out.lt)
      have HD := Hid.mk hD
      have hS' := hS.trans (hB.mono (Nat.le_trans HBs.out hS.size))
      refine opH_run 7 4 (.pointer (some ⟨d, 0, none⟩)) W23 rfl (by kernel_rfl) (by kernel_rfl) (exec_alloc rfl hr) hS' ?_
      clear hS hr hD hB hd
      have hS := hS'
      clear hS'
      simp only [List.setIfInBounds_toArray, List.set_cons_zero, List.set_cons_succ]
      refine stepH_call 2 13 rfl (by kernel_rfl) (by kernel_rfl) (by kernel_rfl) 28 #[.tmp 12] #[26] (by kernel_rfl) (enters_of Try.func28 (by kernel_rfl) rfl) #[.slice (some a) 4 c] (by kernel_rfl) (H28.out _ hS) ?_
      rintro e W24 ⟨rfl, hq, hB⟩
      obtain ⟨g1, hg1⟩ : ∃ g1, g1 = (W23).heap.size := ⟨_, rfl⟩
      rw [← hg1] at hq ⊢
      clear hg1
      have HQ1 := Hid.mk hq
      clear hq
      replace HN := Hid.mk (HN.out.below hB HN.out.lt)
      replace HD := Hid.mk (HD.out.below hB HD.out.lt)
      replace hS := hS.trans (hB.mono (Nat.le_trans HBs.out hS.size))
      clear hB
      refine ⟨_, rfl, hS, ?_⟩
      simp only [List.setIfInBounds_toArray, List.set_cons_zero, List.set_cons_succ]
      refine stepH_call 5 16 rfl (by kernel_rfl) (by kernel_rfl) (by kernel_rfl) 29 #[.tmp 15] #[26] (by kernel_rfl) (enters_of Try.func29 (by kernel_rfl) rfl) #[.slice (some ⟨a.block, a.off + 4, none⟩) 44 (c - 4)] (by kernel_rfl) (H29.out _ hS) ?_
      rintro e W25 ⟨rfl, hq, hB⟩
      replace HQ1 := Hid.mk (HQ1.out.below hB HQ1.out.lt)
      obtain ⟨g2, hg2⟩ : ∃ g2, g2 = (W24).heap.size := ⟨_, rfl⟩
      rw [← hg2] at hq ⊢
      clear hg2
      have HQ2 := Hid.mk hq
      clear hq
      replace HN := Hid.mk (HN.out.below hB HN.out.lt)
      replace HD := Hid.mk (HD.out.below hB HD.out.lt)
      replace hS := hS.trans (hB.mono (Nat.le_trans HBs.out hS.size))
      clear hB
      refine ⟨_, rfl, hS, ?_⟩
      simp only [List.setIfInBounds_toArray, List.set_cons_zero, List.set_cons_succ]
      refine stepH_call 6 17 rfl (by kernel_rfl) (by kernel_rfl) (by kernel_rfl) 27 #[.tmp 13, .tmp 16] #[39, 39] (by kernel_rfl) (enters_of Try.func27 (by kernel_rfl) rfl) #[.slice (some ⟨g1, 0, none⟩) 2 2, .slice (some ⟨g2, 0, none⟩) 11 11] (by kernel_rfl) (H27.out _ _ _ HQ1.out HQ2.out) ?_
      rintro e W26 ⟨rfl, hB⟩
      clear HQ1 HQ2
      replace HN := Hid.mk (HN.out.below hB HN.out.lt)
      replace HD := Hid.mk (HD.out.below hB HD.out.lt)
      replace hS := hS.trans (hB.mono (Nat.le_trans HBs.out hS.size))
      clear hB
      refine ⟨_, rfl, hS, ?_⟩
      simp only [List.setIfInBounds_toArray, List.set_cons_zero, List.set_cons_succ]
      obtain ⟨W27, hr, hD, ho⟩ := store24_run (m := ofB xs) HD.out (zeros_length 13) HOL.out
      have hS2 : Below B w W27 := hS.trans (ho.below (Nat.le_trans HBs.out hS.size) (fun k e => by rw [e]; have := HBb.out; omega))
      have hN2 := HN.out.only ho (by omega)
      have HFIN : Hid (NAt d (ofB xs) W27 ∧ NAt b (zeros 13) W27 ∧ Below B w W27 ∧ b < d) := Hid.mk ⟨hD, hN2, hS2, hbd⟩
      have HR := Hid.mk hr
      clear hD ho hr hN2
      refine stepH_one 8 (by kernel_rfl) ?_
      refine opH_store 8 W27 rfl (by kernel_rfl) (by kernel_rfl) (exec_store (p := .tmp 4) (x := .tmp 17) rfl (by kernel_rfl) (by kernel_rfl) HR.out) hS2 ?_
      refine wpAnyH_done (by kernel_rfl) ?_ _
      clear hS hS2 hbd HR
      go_wp2_with fail
      go_meet
      case rel => exact ⟨d, rfl, HFIN.out⟩
  case rest =>
    obtain ⟨d, rfl, hD, hN, hS, hbd⟩ := hcut
    have HRD : Hid (rdB xs = (fineL (ofB xs) && eqB xs (inoL (ofB xs)))) := Hid.mk (by unfold rdB; rw [hlen]; simp)
    have HBX := Hid.mk (HBA.out wc hS)
    obtain ⟨l, hle⟩ : ∃ l, l = ofB xs := ⟨_, rfl⟩
    rw [← hle] at hD HOL HRD
    have HLE := Hid.mk hle
    have HD := Hid.mk hD
    have HN := Hid.mk hN
    have HS := Hid.mk hS
    have HFIN : Hid (∀ W5 Y : World, Below wc.heap.size wc W5 → Only (fun k => k = b) W5 Y → Below B w Y) := Hid.mk (fun W5 Y h1 h2 => (hS.trans (h1.mono (Nat.le_trans HBs.out hS.size))).trans (h2.below (Nat.le_trans (Nat.le_trans HBs.out hS.size) h1.size) (fun k e => by rw [e]; exact HBb.out)))
    clear H27 H28 H29 HBA HB1 HN1 HRX hle hD hN hS hbd
    cases hf : fineL l with
    | false =>
      have HP := Hid.mk (pack_no wc l HOL.out hf)
      have HR := Hid.mk (rd_no (xs := xs) (by rw [HRD.out, hf]; rfl))
      clear hf HRD
      go_wp2_with (first
        | (refine wpL_load (.tmp 4) rfl rfl d l rfl HD.out HOL.out ?_)
        | (go_at_call 9; refine HP.out.mono ?_; rintro e w5 ⟨rfl, hB5⟩; obtain ⟨Y, hrY, hY, hYo⟩ := store24_run (m := zeros 13) (HN.out.below hB5 HN.out.lt) (zeros_length 13) (zeros_length 13); have HB5 := Hid.mk (HFIN.out _ _ hB5 hYo); have HY := Hid.mk hY; have HRY := Hid.mk hrY; clear hB5 hrY hY hYo)
        | (refine wpL_build rfl rfl ?_)
        | (refine wpL_store (.tmp 2) (.tmp 31) rfl rfl _ _ Y rfl rfl HRY.out ?_))
      exact bodyPost_ret (results_cell2 Try.results12 rfl HY.out (zeros_length 13)) rfl ⟨by rw [HR.out.1, HR.out.2]; rfl, HB5.out⟩
    | true =>
      have HP := Hid.mk (pack_yes wc l HOL.out hf)
      have HEQL : Hid (∀ W g, Below wc.heap.size wc W → RAt W g (inoL l) → Calls Try.prog 30 #[.slice (some a) 64 c, .slice (some ⟨g, 0, none⟩) 64 64] W fun e w' => e = .returned (.bool (eqB xs (inoL l))) ∧ w' = W) := Hid.mk (fun W g hB hr => equal_any W (some a) (some ⟨g, 0, none⟩) 64 64 c 64 xs (inoL l) (HBX.out.only (Only.of_new (fun _ => False) hB) (fun _ _ _ h => h)) (hr.full (inoL_length l HOL.out)) HX.out (inoL_bound l))
      cases heq : eqB xs (inoL l) with
      | false =>
        have HR := Hid.mk (rd_no (xs := xs) (by rw [HRD.out, hf, heq]; rfl))
        rw [heq] at HEQL
        clear hf HRD heq
        go_wp2_with (first
          | (refine wpL_load (.tmp 4) rfl rfl d l rfl HD.out HOL.out ?_)
          | (go_at_call 9; refine HP.out.mono ?_; rintro e w5 ⟨g, rfl, hrow, hge, hB5⟩; obtain ⟨Y, hrY, hY, hYo⟩ := store24_run (m := zeros 13) (HN.out.below hB5 HN.out.lt) (zeros_length 13) (zeros_length 13); have HE5 := Hid.mk (HEQL.out _ _ hB5 hrow); have HB5 := Hid.mk (HFIN.out _ _ hB5 hYo); have HY := Hid.mk hY; have HRY := Hid.mk hrY; clear hB5 hrY hY hYo hrow hge)
          | (go_at_call 30; refine HE5.out.mono ?_; rintro e w6 ⟨rfl, hw⟩; subst w6)
          | (refine wpL_build rfl rfl ?_)
          | (refine wpL_store (.tmp 2) (.tmp 31) rfl rfl _ _ Y rfl rfl HRY.out ?_))
        exact bodyPost_ret (results_cell2 Try.results12 rfl HY.out (zeros_length 13)) rfl ⟨by rw [HR.out.1, HR.out.2]; rfl, HB5.out⟩
      | true =>
        have HR := Hid.mk (rd_yes (xs := xs) (by rw [HRD.out, hf, heq]; rfl))
        rw [heq] at HEQL
        clear hf HRD heq
        go_wp2_with (first
          | (refine wpL_load (.tmp 4) rfl rfl d l rfl HD.out HOL.out ?_)
          | (go_at_call 9; refine HP.out.mono ?_; rintro e w5 ⟨g, rfl, hrow, hge, hB5⟩; obtain ⟨Y, hrY, hY, hYo⟩ := store24_run (m := l) (HN.out.below hB5 HN.out.lt) (zeros_length 13) HOL.out; have HE5 := Hid.mk (HEQL.out _ _ hB5 hrow); have HD5 := Hid.mk (HD.out.below hB5 HD.out.lt); clear HD; have HB5 := Hid.mk (HFIN.out _ _ hB5 hYo); have HY := Hid.mk hY; have HRY := Hid.mk hrY; clear hB5 hrY hY hYo hrow hge)
          | (go_at_call 30; refine HE5.out.mono ?_; rintro e w6 ⟨rfl, hw⟩; subst w6)
          | (refine wpL_load (.tmp 4) rfl rfl d l rfl HD5.out HOL.out ?_)
          | (refine wpL_store (.tmp 2) (.tmp 32) rfl rfl _ _ Y rfl rfl HRY.out ?_))
        exact bodyPost_ret (results_cell2 Try.results12 rfl HY.out HOL.out) rfl ⟨by rw [HR.out.1, HR.out.2, HLE.out]; rfl, HB5.out⟩

theorem read_any (w : World) (ao : Option Addr) (n c : Nat) (xs : List Int) (h : BAt w ao n xs) (hx : ∀ x ∈ xs, 0 ≤ x ∧ x ≤ 255) (hc : n ≤ c) (hc2 : c ≤ 9223372036854775807) :
    Calls Try.prog 12 #[.slice ao n c] w fun e w' => e = .returned (.tuple #[inoV (rdL xs), .int .i64 (rdE xs)]) ∧ Below w.heap.size w w' := by
  by_cases hn : n = 64
  · subst hn
    obtain ⟨a, rfl, -⟩ := h.at 0 (by omega)
    exact read_full w a c xs h hx hc hc2
  · have hr := rd_no (xs := xs) (by unfold rdB; rw [h.1, decide_eq_false hn]; rfl)
    rw [hr.1, hr.2]
    exact read_short w ao n c hn
end Go.Proofs.Ytnajpnnmiocckaa
