/-
  ReadEntry of the reference.
-/
import Derived.Test.YtpdekpdlmfnndaaPackRef
namespace Go.Proofs.Ytpdekpdlmfnndaa
open Go Go.Proofs Go.RowKit Go.Shelf

theorem rread_short (w : World) (ao : Option Addr) (n c : Nat) (hn : n ≠ 32) :
    Calls Try.prog 17 #[.slice ao n c] w fun e w' => e = .returned (.tuple #[entV 0 noS, .bool false]) ∧ Below w.heap.size w w' := by
  have h1 : ((n : Int) == 32) = false := by simp; omega
  have h2 : ¬ ((n : Int) = 32) := by omega
  obtain ⟨X, b, hrX, hX, hXB, hXb⟩ := alloc26_any w
  obtain ⟨Y, hrY, hY, hYo⟩ := store26_run (j := 0) (t := noS) hX
  have HRX := Hid.mk hrX
  have HRY := Hid.mk hrY
  have HY := Hid.mk hY
  have HB := Hid.mk (hXB.trans (hYo.below hXB.size (fun k e => by rw [e]; exact hXb)))
  clear hrX hX hXB hrY hY hYo hXb
  go_enter Try.func17, Try.ntmps17
  go_wp2_with (first
    | (refine wpL_new rfl rfl _ X HRX.out ?_)
    | (refine wpL_build rfl rfl ?_)
    | (refine wpL_store (.tmp 2) (.tmp 11) rfl rfl _ _ Y rfl rfl HRY.out ?_))
  exact bodyPost_ret (results_cell2 Try.results17 rfl HY.out) rfl ⟨rfl, HB.out⟩
theorem rread_big (w : World) (a : Addr) (c : Nat) (xs : List Int) (h : BAt w (some a) 32 xs) (k : Nat) (hk : xs.getD 4 0 = k) (hk1 : 27 < k) (hk2 : k ≤ 255) :
    Calls Try.prog 17 #[.slice (some a) 32 c] w fun e w' => e = .returned (.tuple #[entV 0 noS, .bool false]) ∧ Below w.heap.size w w' := by
  obtain ⟨X, b, hrX, hX, hXB, hXb⟩ := alloc26_any w
  obtain ⟨a', e, hc4⟩ := (h.only (Only.of_new (fun _ => False) hXB) (fun _ _ _ h => h)).at 4 (by omega)
  cases e
  rw [hk, add4] at hc4
  obtain ⟨Y, hrY, hY, hYo⟩ := store26_run (j := 0) (t := noS) hX
  have HRX := Hid.mk hrX
  have HRY := Hid.mk hrY
  have HY := Hid.mk hY
  have HB := Hid.mk (hXB.trans (hYo.below hXB.size (fun k e => by rw [e]; exact hXb)))
  clear hrX hX hXB hrY hY hYo hXb h hk
  go_enter Try.func17, Try.ntmps17
  go_wp2_with (first
    | (refine wpL_new rfl rfl _ X HRX.out ?_)
    | (refine wpL_build rfl rfl ?_)
    | (refine wpL_store (.tmp 2) (.tmp 18) rfl rfl _ _ Y rfl rfl HRY.out ?_))
  exact bodyPost_ret (results_cell2 Try.results17 rfl HY.out) rfl ⟨rfl, HB.out⟩

set_option maxRecDepth 100000 in
set_option maxHeartbeats 4000000 in
theorem rread_full (w : World) (a : Addr) (c : Nat) (xs : List Int) (h : BAt w (some a) 32 xs) (hx : ∀ x ∈ xs, 0 ≤ x ∧ x ≤ 255) (hc : 32 ≤ c) (hc2 : c ≤ 9223372036854775807) (k : Nat) (hk : xs.getD 4 0 = k) (hk1 : k ≤ 27) :
    Calls Try.prog 17 #[.slice (some a) 32 c] w fun e w' => e = .returned (.tuple #[entV (rdI xs) (rdS xs), .bool (rdB xs)]) ∧ Below w.heap.size w w' := by
  have hlen := h.1
  have HX := Hid.mk hx
  obtain ⟨W1, b, hrX, hX, hXB, hXb⟩ := alloc26_any w
  obtain ⟨B, hBe⟩ : ∃ B, B = w.heap.size := ⟨_, rfl⟩
  rw [← hBe] at hXB hXb
  have HBA : Hid (∀ W, Below B w W → BAt W (some a) 32 xs) := Hid.mk (fun W hB => h.only (Only.of_new (fun _ => False) (by rw [hBe] at hB; exact hB)) (fun _ _ _ h => h))
  rw [← hBe]
  obtain ⟨a', e, hc4⟩ := (HBA.out W1 hXB).at 4 (by omega)
  cases e
  rw [hk, add4] at hc4
  have HRX := Hid.mk hrX
  have HN1 := Hid.mk hX
  have HB1 := Hid.mk hXB
  have HBb := Hid.mk hXb
  have HBs : Hid (B ≤ w.heap.size) := Hid.mk (by omega)
  have HGL : Hid (gotL xs = (xs.drop 5).take k) := Hid.mk (by unfold gotL; rw [hk, Int.toNat_natCast])
  have H29 : Hid (∀ W, Below B w W → Calls Try.prog 29 #[.slice (some a) 32 c, .int .i64 0, .int .i64 4] W fun e w' => e = .returned (.int .i64 (gotI xs)) ∧ w' = W) := Hid.mk (fun W hB => by
    have h := rnum_any W a 32 c 0 4 (by omega) (by omega) xs (HBA.out W hB) HX.out (by omega) (by omega)
    rw [List.drop_zero] at h
    exact h)
  have HCV : Hid (∀ W, Below B w W → (convert 27 9 (.slice (some ⟨a.block, a.off + 5, none⟩) k (c - 5))).run Try.prog W = .ok (.string (strOfNums (gotL xs))) W) := Hid.mk (fun W hB => conv_bytes W _ _ _ _ (by rw [HGL.out]; exact ((HBA.out W hB).slice 5 (by omega) (by omega)).front k (by omega)))
  have HK := Hid.mk hk
  clear hrX hX hXB hXb h hx hBe hk
  generalize hS : strOfNums (gotL xs) = S at HCV
  have HSE := Hid.mk hS
  clear hS
  go_enter Try.func17, Try.ntmps17
  go_upto_region 6 with (refine wpL_new rfl rfl _ W1 HRX.out ?_)
  clear hc4
  go_cut [5] from 19 to 26 (fun v wx => ∃ d, v = .pointer (some ⟨d, 0, none⟩) ∧ NAt d (gotI xs) S wx ∧ NAt b 0 noS wx ∧ Below B w wx ∧ b < d)
  case first =>
    refine wp_region_held_drew (S := Below B w) (by kernel_rfl) HB1.out.drew (fun hH => ?_)
    change wpAnyH Try.prog Region.Mode.any _ _ _ 10 _ _ _
    refine takeH 0 19 (.slice (some a) 32 c) rfl (by kernel_rfl) (by kernel_rfl) (by kernel_rfl) (by kernel_rfl) (fun _ _ _ h => h) (by kernel_rfl) (fun w hw => by kernel_rfl) hH ?_
    simp only [List.setIfInBounds_toArray, List.set_cons_zero, List.set_cons_succ]
    refine takeH 2 21 (.slice (some a) 32 c) rfl (by kernel_rfl) (by kernel_rfl) (by kernel_rfl) (by kernel_rfl) (fun _ _ _ h => h) (by kernel_rfl) (fun w hw => by kernel_rfl) hH ?_
    simp only [List.setIfInBounds_toArray, List.set_cons_zero, List.set_cons_succ]
    refine takeH 3 22 (.int .i64 k) rfl (by kernel_rfl) (by kernel_rfl) (by kernel_rfl) (by kernel_rfl) (fun _ _ _ h => h) (by kernel_rfl) (fun w hw => by kernel_rfl) hH ?_
    simp only [List.setIfInBounds_toArray, List.set_cons_zero, List.set_cons_succ]
    refine takeH 4 23 (.int .i64 (5 + k)) rfl (by kernel_rfl) (by kernel_rfl) (by kernel_rfl) (by kernel_rfl) (fun _ _ _ h => h) (by kernel_rfl) (fun w hw => by (have e : IntKind.i64.wrap (5 + (k : Int)) = 5 + k := by rw [IntKind.wrap_i64]; omega); go_simp) hH ?_
    simp only [List.setIfInBounds_toArray, List.set_cons_zero, List.set_cons_succ]
    refine takeH 5 24 (.slice (some ⟨a.block, a.off + 5, none⟩) k (c - 5)) rfl (by kernel_rfl) (by kernel_rfl) (by kernel_rfl) (by kernel_rfl) (fun _ _ _ h => h) (by kernel_rfl) (fun w hw => by (have e : (5 + (k : Int)).toNat - 5 = k := by omega); go_simp; rw [if_pos (by omega), if_pos (by omega), if_neg (by omega)]) hH ?_
    simp only [List.setIfInBounds_toArray, List.set_cons_zero, List.set_cons_succ]
    refine takeH 6 25 (.string S) rfl (by kernel_rfl) (by kernel_rfl) (by kernel_rfl) (by kernel_rfl) (fun _ _ _ h => h) (by kernel_rfl) (fun w hw => by exact exec_convert (x := .tmp 24) rfl (by kernel_rfl) (HCV.out _ hw)) hH ?_
    simp only [List.setIfInBounds_toArray, List.set_cons_zero, List.set_cons_succ]
    have HN : Hid (NAt b 0 noS W1.drew) := HN1
    refine stepH_two 1 8 (by kernel_rfl) ?_ ?_
    · refine opH_call 1 20 rfl (by kernel_rfl) (by kernel_rfl) 29 #[.tmp 19, .const (.int .i64 0), .const (.int .i64 4)] #[27, 3, 3] (by kernel_rfl) (enters_of Try.func29 (by kernel_rfl) rfl) #[.slice (some a) 32 c, .int .i64 0, .int .i64 4] (by kernel_rfl) (H29.out _ hH) ?_
      rintro e w' ⟨rfl, hw⟩
      subst w'
      refine ⟨_, rfl, hH, ?_⟩
      simp only [List.setIfInBounds_toArray, List.set_cons_zero, List.set_cons_succ]
      refine takeH 7 26 (entV (gotI xs) S) rfl (by kernel_rfl) (by kernel_rfl) (by kernel_rfl) (by kernel_rfl) (fun _ _ _ h => h) (by kernel_rfl) (fun w hw => by exact exec_build26two (x := .tmp 20) (y := .tmp 25) rfl (by kernel_rfl) (by kernel_rfl)) hH ?_
      simp only [List.setIfInBounds_toArray, List.set_cons_zero, List.set_cons_succ]
      obtain ⟨W3, d, hr, hD, hB, hd⟩ := alloc26_any W1.drew
      have hbd : b < d := Nat.lt_of_lt_of_le HN.out.lt hd
      replace HN := Hid.mk (HN.out.below hB HN.out.lt)
      have HD := Hid.mk hD
      have hS' := hH.trans (hB.mono (Nat.le_trans HBs.out hH.size))
      refine stepH_run 8 5 (.pointer (some ⟨d, 0, none⟩)) W3 rfl (by kernel_rfl) (by kernel_rfl) (by kernel_rfl) (exec_alloc rfl hr) hS' ?_
      clear hH hr hD hB hd
      have hH := hS'
      clear hS'
      simp only [List.setIfInBounds_toArray, List.set_cons_zero, List.set_cons_succ]
      obtain ⟨W4, hr, hD, ho⟩ := store26_run (j := gotI xs) (t := S) HD.out
      have hS2 : Below B w W4 := hH.trans (ho.below (Nat.le_trans HBs.out hH.size) (fun k e => by rw [e]; have := HBb.out; omega))
      have hN2 := HN.out.only ho (by omega)
      have HFIN : Hid (NAt d (gotI xs) S W4 ∧ NAt b 0 noS W4 ∧ Below B w W4 ∧ b < d) := Hid.mk ⟨hD, hN2, hS2, hbd⟩
      have HR := Hid.mk hr
      clear hD ho hr hN2
      refine stepH_one 9 (by kernel_rfl) ?_
      refine opH_store 9 W4 rfl (by kernel_rfl) (by kernel_rfl) (exec_store (p := .tmp 5) (x := .tmp 26) rfl (by kernel_rfl) (by kernel_rfl) HR.out) hS2 ?_
      refine wpAnyH_done (by kernel_rfl) ?_ _
      clear hH hS2 hbd HR
      go_wp2_with fail
      go_meet
      case rel => exact ⟨d, rfl, HFIN.out⟩
    · obtain ⟨W3, d, hr, hD, hB, hd⟩ := alloc26_any W1.drew
      have hbd : b < d := Nat.lt_of_lt_of_le HN.out.lt hd
      replace HN := Hid.mk (HN.out.below hB HN.out.lt)
      have HD := Hid.mk hD
      have hS' := hH.trans (hB.mono (Nat.le_trans HBs.out hH.size))
      refine opH_run 8 5 (.pointer (some ⟨d, 0, none⟩)) W3 rfl (by kernel_rfl) (by kernel_rfl) (exec_alloc rfl hr) hS' ?_
      clear hH hr hD hB hd
      have hH := hS'
      clear hS'
      simp only [List.setIfInBounds_toArray, List.set_cons_zero, List.set_cons_succ]
      refine stepH_call 1 20 rfl (by kernel_rfl) (by kernel_rfl) (by kernel_rfl) 29 #[.tmp 19, .const (.int .i64 0), .const (.int .i64 4)] #[27, 3, 3] (by kernel_rfl) (enters_of Try.func29 (by kernel_rfl) rfl) #[.slice (some a) 32 c, .int .i64 0, .int .i64 4] (by kernel_rfl) (H29.out _ hH) ?_
      rintro e w' ⟨rfl, hw⟩
      subst w'
      refine ⟨_, rfl, hH, ?_⟩
      simp only [List.setIfInBounds_toArray, List.set_cons_zero, List.set_cons_succ]
      refine takeH 7 26 (entV (gotI xs) S) rfl (by kernel_rfl) (by kernel_rfl) (by kernel_rfl) (by kernel_rfl) (fun _ _ _ h => h) (by kernel_rfl) (fun w hw => by exact exec_build26two (x := .tmp 20) (y := .tmp 25) rfl (by kernel_rfl) (by kernel_rfl)) hH ?_
      simp only [List.setIfInBounds_toArray, List.set_cons_zero, List.set_cons_succ]
      obtain ⟨W4, hr, hD, ho⟩ := store26_run (j := gotI xs) (t := S) HD.out
      have hS2 : Below B w W4 := hH.trans (ho.below (Nat.le_trans HBs.out hH.size) (fun k e => by rw [e]; have := HBb.out; omega))
      have hN2 := HN.out.only ho (by omega)
      have HFIN : Hid (NAt d (gotI xs) S W4 ∧ NAt b 0 noS W4 ∧ Below B w W4 ∧ b < d) := Hid.mk ⟨hD, hN2, hS2, hbd⟩
      have HR := Hid.mk hr
      clear hD ho hr hN2
      refine stepH_one 9 (by kernel_rfl) ?_
      refine opH_store 9 W4 rfl (by kernel_rfl) (by kernel_rfl) (exec_store (p := .tmp 5) (x := .tmp 26) rfl (by kernel_rfl) (by kernel_rfl) HR.out) hS2 ?_
      refine wpAnyH_done (by kernel_rfl) ?_ _
      clear hH hS2 hbd HR
      go_wp2_with fail
      go_meet
      case rel => exact ⟨d, rfl, HFIN.out⟩
  case rest =>
    obtain ⟨d, rfl, hD, hN, hS, hbd⟩ := hcut
    have HRD : Hid (rdB xs = (isB (gotI xs) (gotL xs) && eqB (entL (gotI xs) (gotL xs)) xs)) := Hid.mk (by unfold rdB; rw [hlen, HK.out]; simp; omega)
    have HBX := Hid.mk (HBA.out wc hS)
    have HNM : Hid (nm S = gotL xs) := Hid.mk (by rw [← HSE.out]; exact nm_str _ (got_bound xs HX.out))
    have hsz : S.size ≤ 27 := by rw [← nm_length, HNM.out, HGL.out]; simp; omega
    rw [← HNM.out] at HRD
    obtain ⟨i, hie⟩ : ∃ i, i = gotI xs := ⟨_, rfl⟩
    rw [← hie] at hD HRD
    have HLE := Hid.mk hie
    have HD := Hid.mk hD
    have HN := Hid.mk hN
    have HFIN : Hid (∀ W5 Y : World, Below wc.heap.size wc W5 → Only (fun k => k = b) W5 Y → Below B w Y) := Hid.mk (fun W5 Y h1 h2 => (hS.trans (h1.mono (Nat.le_trans HBs.out hS.size))).trans (h2.below (Nat.le_trans (Nat.le_trans HBs.out hS.size) h1.size) (fun k e => by rw [e]; exact HBb.out)))
    have HSZ := Hid.mk hsz
    clear H29 HCV HBA HB1 HN1 HRX hie hD hN hS hbd hsz
    cases hf : isB i (nm S) with
    | false =>
      have HP := Hid.mk (rpack_no wc i S (by have := HSZ.out; omega) hf)
      have HRF := Hid.mk (show rdB xs = false by rw [HRD.out, hf]; rfl)
      have HR := Hid.mk (rd_no HRF.out)
      clear hf HRD
      go_wp2_with (first
        | (refine wpL_load (.tmp 5) rfl rfl d i S rfl HD.out ?_)
        | (go_at_call 13; refine HP.out.mono ?_; rintro e w5 ⟨rfl, hB5⟩; obtain ⟨Y, hrY, hY, hYo⟩ := store26_run (j := 0) (t := noS) (HN.out.below hB5 HN.out.lt); have HB5 := Hid.mk (HFIN.out _ _ hB5 hYo); have HY := Hid.mk hY; have HRY := Hid.mk hrY; clear hB5 hrY hY hYo)
        | (refine wpL_build rfl rfl ?_)
        | (refine wpL_store (.tmp 2) (.tmp 41) rfl rfl _ _ Y rfl rfl HRY.out ?_))
      exact bodyPost_ret (results_cell2 Try.results17 rfl HY.out) rfl ⟨by rw [HR.out.1, HR.out.2.1, HRF.out]; rfl, HB5.out⟩
    | true =>
      have HP := Hid.mk (rpack_yes wc i S hf)
      have hpl := isB_parts hf
      have HEB := Hid.mk (entL_bound i (nm S) hpl.2 (nm_bound S))
      clear hpl
      have HBY : Hid (∀ W v, Below wc.heap.size wc W → W.ownsRow wc.heap.size 5 1 v 32 (By (entL i (nm S))) → ∃ ao c', v = .slice ao 32 c' ∧ BAt W ao 32 (entL i (nm S)) ∧ BAt W (some a) 32 xs) := Hid.mk (fun W v hB ho => by
        obtain ⟨ao, c', rfl, h1, -⟩ := owns_BAt ho
        exact ⟨ao, c', rfl, h1, HBX.out.only (Only.of_new (fun _ => False) hB) (fun _ _ _ h => h)⟩)
      have HSQ := Hid.mk (str_eqB (entL i (nm S)) xs HEB.out HX.out)
      obtain ⟨S1, hS1⟩ : ∃ S1, S1 = strOfNums (entL i (nm S)) := ⟨_, rfl⟩
      obtain ⟨S2, hS2⟩ : ∃ S2, S2 = strOfNums xs := ⟨_, rfl⟩
      rw [← hS1, ← hS2] at HSQ
      have HS1 := Hid.mk hS1
      have HS2 := Hid.mk hS2
      clear hS1 hS2
      cases heq : eqB (entL i (nm S)) xs with
      | false =>
        have HRF := Hid.mk (show rdB xs = false by rw [HRD.out, hf, heq]; rfl)
        have HR := Hid.mk (rd_no HRF.out)
        rw [heq] at HSQ
        clear hf HRD heq
        go_wp2_with (first
          | (refine wpL_load (.tmp 5) rfl rfl d i S rfl HD.out ?_)
          | (go_at_call 13; refine HP.out.mono ?_; rintro e w5 ⟨v, rfl, ho, hB5⟩; obtain ⟨ao, c', rfl, hb1, hb2⟩ := HBY.out _ _ hB5 ho; obtain ⟨Y, hrY, hY, hYo⟩ := store26_run (j := 0) (t := noS) (HN.out.below hB5 HN.out.lt); have HC1 := Hid.mk hb1; have HC2 := Hid.mk hb2; have HB5 := Hid.mk (HFIN.out _ _ hB5 hYo); have HY := Hid.mk hY; have HRY := Hid.mk hrY; clear hB5 hrY hY hYo ho hb1 hb2)
          | (refine wpL_conv (.tmp 35) rfl rfl ao 32 c' _ rfl HC1.out S1 HS1.out ?_)
          | (refine wpL_conv (.tmp 37) rfl rfl (some a) 32 c _ rfl HC2.out S2 HS2.out ?_)
          | (refine wpL_strneq (.tmp 36) (.tmp 38) 9 rfl rfl S1 S2 false HSQ.out rfl rfl ?_)
          | (refine wpL_build rfl rfl ?_)
          | (refine wpL_store (.tmp 2) (.tmp 41) rfl rfl _ _ Y rfl rfl HRY.out ?_))
        exact bodyPost_ret (results_cell2 Try.results17 rfl HY.out) rfl ⟨by rw [HR.out.1, HR.out.2.1, HRF.out]; rfl, HB5.out⟩
      | true =>
        have HRF := Hid.mk (show rdB xs = true by rw [HRD.out, hf, heq]; rfl)
        have HR := Hid.mk (rd_yes HRF.out)
        rw [heq] at HSQ
        clear hf HRD heq
        go_wp2_with (first
          | (refine wpL_load (.tmp 5) rfl rfl d i S rfl HD.out ?_)
          | (go_at_call 13; refine HP.out.mono ?_; rintro e w5 ⟨v, rfl, ho, hB5⟩; obtain ⟨ao, c', rfl, hb1, hb2⟩ := HBY.out _ _ hB5 ho; obtain ⟨Y, hrY, hY, hYo⟩ := store26_run (j := i) (t := S) (HN.out.below hB5 HN.out.lt); have HC1 := Hid.mk hb1; have HC2 := Hid.mk hb2; have HD5 := Hid.mk (HD.out.below hB5 HD.out.lt); clear HD; have HB5 := Hid.mk (HFIN.out _ _ hB5 hYo); have HY := Hid.mk hY; have HRY := Hid.mk hrY; clear hB5 hrY hY hYo ho hb1 hb2)
          | (refine wpL_conv (.tmp 35) rfl rfl ao 32 c' _ rfl HC1.out S1 HS1.out ?_)
          | (refine wpL_conv (.tmp 37) rfl rfl (some a) 32 c _ rfl HC2.out S2 HS2.out ?_)
          | (refine wpL_strneq (.tmp 36) (.tmp 38) 9 rfl rfl S1 S2 true HSQ.out rfl rfl ?_)
          | (refine wpL_load (.tmp 5) rfl rfl d i S rfl HD5.out ?_)
          | (refine wpL_store (.tmp 2) (.tmp 42) rfl rfl _ _ Y rfl rfl HRY.out ?_))
        exact bodyPost_ret (results_cell2 Try.results17 rfl HY.out) rfl ⟨by rw [HR.out.1, HR.out.2.1, HRF.out, HLE.out, HSE.out]; rfl, HB5.out⟩

theorem rread_any (w : World) (ao : Option Addr) (n c : Nat) (xs : List Int) (h : BAt w ao n xs) (hx : ∀ x ∈ xs, 0 ≤ x ∧ x ≤ 255) (hc : n ≤ c) (hc2 : c ≤ 9223372036854775807) :
    Calls Try.prog 17 #[.slice ao n c] w fun e w' => e = .returned (.tuple #[entV (rdI xs) (rdS xs), .bool (rdB xs)]) ∧ Below w.heap.size w w' := by
  by_cases hn : n = 32
  · subst hn
    obtain ⟨a, rfl, -⟩ := h.at 0 (by omega)
    have hb := getD_bound xs hx 4
    obtain ⟨k, hk⟩ : ∃ k : Nat, xs.getD 4 0 = k := ⟨(xs.getD 4 0).toNat, by omega⟩
    by_cases hk1 : k ≤ 27
    · exact rread_full w a c xs h hx hc hc2 k hk hk1
    · have hf : rdB xs = false := by unfold rdB; rw [hk, decide_eq_false (show ¬ ((k : Int) ≤ 27) by omega)]; simp
      rw [(rd_no hf).1, (rd_no hf).2.1, hf]
      exact rread_big w a c xs h k hk (by omega) (by omega)
  · have hf : rdB xs = false := by unfold rdB; rw [h.1, decide_eq_false hn]; rfl
    rw [(rd_no hf).1, (rd_no hf).2.1, hf]
    exact rread_short w ao n c hn
end Go.Proofs.Ytpdekpdlmfnndaa
