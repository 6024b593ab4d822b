/-
  PackEntry of the reference.
-/
import Derived.Test.YteegopccpgbakaaEntRead
import Derived.Lib.AppendStr
namespace Go.Proofs.Yteegopccpgbakaa
open Go Go.Proofs Go.RowKit Go.Shelf
namespace Ent
theorem strCells_nm (s : ByteArray) : Lib.strCells s = By (nm s) := by
  simp [Lib.strCells, By, nm]
/-- append(b, s...), s a string. -/
theorem append_str_run (w : World) (B : Nat) (v : Value) (n : Nat) (xs : List Int) (s : ByteArray) (hown : w.ownsRow B 5 1 v n (By xs)) (hB : B ≤ w.heap.size) (hn : n + s.size ≤ 16777216) :
    ∃ v' w', (Builtin.append_ #[26, 9] 26 #[v, .string s]).run Try.prog w = .ok v' w' ∧ w'.ownsRow B 5 1 v' (n + s.size) (By (xs ++ nm s)) ∧ Below B w w' := by
  obtain ⟨i0, hi, hz0, hz1, hz2⟩ := info5p
  obtain ⟨v', w', h1, h2, h3, -⟩ := Lib.run_append_own_string (P := Try.prog) (w := w) B 26 9 26 5 i0 Try.underlying26 Try.underlying9 hi hz0 hz1 hz2 v n (By xs) hown s (by unfold maxLen; omega) (by omega) hB
  refine ⟨v', w', h1, ?_, (Below.refl _ w).grown h3 hB (fun k hk => (hown.lt k hk).1)⟩
  rw [strCells_nm] at h2
  simpa [By] using h2
theorem _root_.Go.Proofs.Yteegopccpgbakaa.RAt.owns {W : World} {g B n : Nat} {xs : List Int} (h : RAt W g xs) (hl : xs.length = n) (hn : n ≤ 16777216) (hB : B ≤ g) : W.ownsRow B 5 1 (.slice (some ⟨g, 0, none⟩) n n) n (By xs) := by
  refine ⟨by rw [By_length]; omega, .inr ⟨g, n, (By xs).toArray, rfl, hB, h, Nat.le_refl _, by unfold maxLen; omega, by simp [By_length]; omega, ?_⟩⟩
  rw [List.take_of_length_le (by simp [By_length]; omega)]
theorem rpack_no (w : World) (i : Int) (s : ByteArray) (hs : s.size ≤ 1000) (hf : isB i (nm s) = false) : Calls Try.prog 39 #[entV i s] w fun e w' => e = .returned (.tuple #[.slice none 0 0, .bool false]) ∧ Below w.heap.size w w' := by
  obtain ⟨b, hb⟩ : ∃ b, b = w.heap.size := ⟨_, rfl⟩
  obtain ⟨W1, hW1⟩ : ∃ W1, W1 = w.alloc (.cells (entC i s).toArray 48) := ⟨_, rfl⟩
  have hN : NAt b i s W1 := by rw [hW1, hb]; exact NAt.new _ _ _
  have hB1 : Below b w W1 := by rw [hW1]; exact (Below.refl _ w).alloc (by omega) _
  obtain ⟨hc0, hc1⟩ := hN.cell
  rw [← hb]
  have HB1 := Hid.mk hB1
  have HBE := Hid.mk hb
  have HW1 := Hid.mk hW1
  clear hB1 hN hb hW1
  have hE := nm_empty s
  by_cases h0 : i = 0
  · subst h0
    rw [isB_zero] at hf
    have hn : ¬ s.size = 0 := by
      rw [← nm_length]
      intro h
      rw [List.length_eq_zero_iff.1 h] at hf
      simp at hf
    rw [decide_eq_false hn] at hE
    clear hf hn
    go_enter Try.func39, Try.ntmps39
    go_wp2_with (first
      | (refine wpL_box (.tmp 0) rfl rfl 0 s b W1 HBE.out HW1.out rfl ?_)
      | (go_at_call 55; refine (rname_any _ s hs).mono ?_; rintro e w' ⟨rfl, hw⟩; subst w'))
    go_ret2
    exact ⟨rfl, HB1.out⟩
  · rw [isB_some h0] at hf
    have h0' : (i == 0) = false := by simp [h0]
    clear hE
    cases h1 : fitB 4294967295 i with
    | false =>
      have H1 := Hid.mk h1
      clear h1 hf
      go_enter Try.func39, Try.ntmps39
      go_wp2_with (first
        | (refine wpL_box (.tmp 0) rfl rfl i s b W1 HBE.out HW1.out rfl ?_)
        | (go_at_call 55; refine (rname_any _ s hs).mono ?_; rintro e w' ⟨rfl, hw⟩; subst w')
        | (go_at_call 38; refine (rfits4_any _ i).mono ?_; rintro e w' ⟨rfl, hw⟩; subst w'; rw [H1.out]))
      go_ret2
      exact ⟨rfl, HB1.out⟩
    | true =>
      rw [h1] at hf
      have H1 := Hid.mk h1
      have H2 : Hid (nameB (nm s) = false) := Hid.mk (by simpa using hf)
      clear h1 hf
      go_enter Try.func39, Try.ntmps39
      go_wp2_with (first
        | (refine wpL_box (.tmp 0) rfl rfl i s b W1 HBE.out HW1.out rfl ?_)
        | (go_at_call 55; refine (rname_any _ s hs).mono ?_; rintro e w' ⟨rfl, hw⟩; subst w'; rw [H2.out])
        | (go_at_call 38; refine (rfits4_any _ i).mono ?_; rintro e w' ⟨rfl, hw⟩; subst w'; rw [H1.out]))
      go_ret2
      exact ⟨rfl, HB1.out⟩
theorem leL1 (n : Nat) (h : n ≤ 255) : leL (n : Int) 1 = [(n : Int)] := by
  simp [leL, List.range_succ]
  omega
set_option maxHeartbeats 2000000 in
theorem rpack_yes (w : World) (i : Int) (s : ByteArray) (hf : isB i (nm s) = true) : Calls Try.prog 39 #[entV i s] w fun e w' => ∃ v, e = .returned (.tuple #[v, .bool true]) ∧ w'.ownsRow w.heap.size 5 1 v 32 (By (entL i (nm s))) ∧ Below w.heap.size w w' := by
  obtain ⟨hi, hl⟩ := isB_parts hf
  have hs : s.size ≤ 27 := by rw [← nm_length]; exact hl
  obtain ⟨b, hb⟩ : ∃ b, b = w.heap.size := ⟨_, rfl⟩
  obtain ⟨W1, hW1⟩ : ∃ W1, W1 = w.alloc (.cells (entC i s).toArray 48) := ⟨_, rfl⟩
  have hN : NAt b i s W1 := by rw [hW1, hb]; exact NAt.new _ _ _
  have hB1 : Below b w W1 := by rw [hW1]; exact (Below.refl _ w).alloc (by omega) _
  obtain ⟨hc0, hc1⟩ := hN.cell
  rw [← hb]
  have HB1 := Hid.mk hB1
  have HN := Hid.mk hN
  have HBE := Hid.mk hb
  have HW1 := Hid.mk hW1
  clear hB1 hN hb hW1 hl
  have hE := nm_empty s
  by_cases h0 : i = 0
  · subst h0
    rw [isB_zero] at hf
    have hn : nm s = [] := by simpa using hf
    have hz : s.size = 0 := by rw [← nm_length, hn]; rfl
    rw [decide_eq_true hz] at hE
    have hMK := make_run W1 32 (by omega)
    change _ = Result.ok _ (W1.alloc (.cells (By (zeros 32)).toArray 5)) at hMK
    have hR : RAt (W1.alloc (.cells (By (zeros 32)).toArray 5)) W1.heap.size (zeros 32) := blk_new _ _
    have HFIN : Hid ((W1.alloc (.cells (By (zeros 32)).toArray 5)).ownsRow b 5 1 (.slice (some ⟨W1.heap.size, 0, none⟩) 32 32) 32 (By (entL 0 (nm s))) ∧ Below b w (W1.alloc (.cells (By (zeros 32)).toArray 5))) := Hid.mk (by
      rw [hn, entL_none]
      exact ⟨hR.owns (zeros_length 32) (by omega) (Nat.le_of_lt HN.out.lt), HB1.out.alloc (Nat.le_of_lt HN.out.lt) _⟩)
    have HMK := Hid.mk hMK
    clear hMK hR hf hn hz
    go_enter Try.func39, Try.ntmps39
    go_wp2_with (first
      | (refine wpL_box (.tmp 0) rfl rfl 0 s b W1 HBE.out HW1.out rfl ?_)
      | (at_make; refine wpList_make_known rfl _ _ 26 rfl _ _ _ _ rfl rfl HMK.out ?_))
    go_ret2
    exact ⟨_, rfl, HFIN.out⟩
  · rw [isB_some h0, Bool.and_eq_true] at hf
    have h0' : (i == 0) = false := by simp [h0]
    have H1 := Hid.mk hf.1
    have H2 := Hid.mk hf.2
    clear hE hf
    have HEL : Hid (((([] ++ leL i 4) ++ leL (s.size : Int) 1) ++ nm s) ++ zeros (32 - (0 + 4 + 1 + s.size)) = entL i (nm s)) := Hid.mk (by
      rw [leL1 s.size (by omega), entL, nm_length]
      simp)
    have HQ1 : Hid (Calls Try.prog 31 #[.slice none 0 0, .int .i64 i, .int .i64 4] W1.drew fun e w' => ∃ v', e = .returned v' ∧ w'.ownsRow W1.heap.size 5 1 v' (0 + 4) (By ([] ++ leL i 4)) ∧ Below W1.heap.size W1.drew w') := Hid.mk (rput_any W1.drew W1.heap.size (.slice none 0 0) 0 4 [] i (.inl (World.ownsRow_nil _ _ 5 1)) (Nat.le_refl _) (by omega) (by omega) (by omega) hi.1 (by omega))
    have HQ2 : Hid (∀ W v, W1.heap.size ≤ W.heap.size → W.ownsRow W1.heap.size 5 1 v (0 + 4) (By ([] ++ leL i 4)) → Calls Try.prog 31 #[v, .int .i64 s.size, .int .i64 1] W fun e w' => ∃ v', e = .returned v' ∧ w'.ownsRow W1.heap.size 5 1 v' (0 + 4 + 1) (By (([] ++ leL i 4) ++ leL (s.size : Int) 1)) ∧ Below W1.heap.size W w') := Hid.mk (fun W v hW ho => rput_any W W1.heap.size v 4 1 _ s.size (.inl ho) hW (by omega) (by omega) (by omega) (by omega) (by omega))
    have HQ3 : Hid (∀ W v, W1.heap.size ≤ W.heap.size → W.ownsRow W1.heap.size 5 1 v (0 + 4 + 1 + s.size) (By ((([] ++ leL i 4) ++ leL (s.size : Int) 1) ++ nm s)) → Calls Try.prog 32 #[v, .int .i64 32] W fun e w' => ∃ v', e = .returned v' ∧ w'.ownsRow W1.heap.size 5 1 v' 32 (By (entL i (nm s))) ∧ Below W1.heap.size W w') := Hid.mk (fun W v hW ho => by
      have h := fill_any W W1.heap.size v (0 + 4 + 1 + s.size) 32 _ ho hW (by omega) (by omega)
      rwa [HEL.out] at h)
    go_enter Try.func39, Try.ntmps39
    go_upto_region 6 with (first
      | (refine wpL_box (.tmp 0) rfl rfl i s b W1 HBE.out HW1.out rfl ?_)
      | (go_at_call 55; refine (rname_any _ s (by omega)).mono ?_; rintro e w' ⟨rfl, hw⟩; subst w'; rw [H2.out])
      | (go_at_call 38; refine (rfits4_any _ i).mono ?_; rintro e w' ⟨rfl, hw⟩; subst w'; rw [H1.out]))
    clear hc0 hc1
    refine wp_region_held_drew (S := fun W => NAt b i s W ∧ Below W1.heap.size W1.drew W) (by kernel_rfl) ⟨HN.out, Below.refl _ _⟩ (fun hH => ?_)
    change wpAnyH Try.prog Region.Mode.any _ _ _ 13 _ _ _
    refine takeH 0 30 (.pointer (some ⟨b, 0, none⟩)) rfl (by kernel_rfl) (by kernel_rfl) (by kernel_rfl) (by kernel_rfl) (fun _ _ _ h => h) (by kernel_rfl) (fun w hw => by (try dsimp only at hw); go_simp) hH ?_
    simp only [List.setIfInBounds_toArray, List.set_cons_zero, List.set_cons_succ]
    refine takeH 1 31 (.int .i64 i) rfl (by kernel_rfl) (by kernel_rfl) (by kernel_rfl) (by kernel_rfl) (fun _ _ _ h => h) (by kernel_rfl) (fun w hw => by have h := hw.1.cell; go_simp) hH ?_
    simp only [List.setIfInBounds_toArray, List.set_cons_zero, List.set_cons_succ]
    refine takeH 3 33 (.pointer (some ⟨b, 1, none⟩)) rfl (by kernel_rfl) (by kernel_rfl) (by kernel_rfl) (by kernel_rfl) (fun _ _ _ h => h) (by kernel_rfl) (fun w hw => by (try dsimp only at hw); go_simp) hH ?_
    simp only [List.setIfInBounds_toArray, List.set_cons_zero, List.set_cons_succ]
    refine takeH 4 34 (.string s) rfl (by kernel_rfl) (by kernel_rfl) (by kernel_rfl) (by kernel_rfl) (fun _ _ _ h => h) (by kernel_rfl) (fun w hw => by have h := hw.1.cell; go_simp) hH ?_
    simp only [List.setIfInBounds_toArray, List.set_cons_zero, List.set_cons_succ]
    refine takeH 5 35 (.int .i64 s.size) rfl (by kernel_rfl) (by kernel_rfl) (by kernel_rfl) (by kernel_rfl) (fun _ _ _ h => h) (by kernel_rfl) (fun w hw => by (try dsimp only at hw); go_simp) hH ?_
    simp only [List.setIfInBounds_toArray, List.set_cons_zero, List.set_cons_succ]
    refine takeH 7 37 (.pointer (some ⟨b, 1, none⟩)) rfl (by kernel_rfl) (by kernel_rfl) (by kernel_rfl) (by kernel_rfl) (fun _ _ _ h => h) (by kernel_rfl) (fun w hw => by (try dsimp only at hw); go_simp) hH ?_
    simp only [List.setIfInBounds_toArray, List.set_cons_zero, List.set_cons_succ]
    refine takeH 8 38 (.string s) rfl (by kernel_rfl) (by kernel_rfl) (by kernel_rfl) (by kernel_rfl) (fun _ _ _ h => h) (by kernel_rfl) (fun w hw => by have h := hw.1.cell; go_simp) hH ?_
    simp only [List.setIfInBounds_toArray, List.set_cons_zero, List.set_cons_succ]
    refine stepH_call 2 32 rfl (by kernel_rfl) (by kernel_rfl) (by kernel_rfl) 31 #[.const (.slice none 0 0), .tmp 31, .const (.int .i64 4)] #[26, 3, 3] (by kernel_rfl) (enters_of Try.func31 (by kernel_rfl) rfl) #[.slice none 0 0, .int .i64 i, .int .i64 4] (by kernel_rfl) HQ1.out ?_
    rintro e W2 ⟨v1, rfl, ho, hB⟩
    replace hH : NAt b i s W2 ∧ Below W1.heap.size W1.drew W2 := ⟨hH.1.below hB HN.out.lt, hH.2.trans hB⟩
    have HO1 := Hid.mk ho
    clear ho hB
    refine ⟨_, rfl, hH, ?_⟩
    simp only [List.setIfInBounds_toArray, List.set_cons_zero, List.set_cons_succ]
    refine stepH_call 6 36 rfl (by kernel_rfl) (by kernel_rfl) (by kernel_rfl) 31 #[.tmp 32, .tmp 35, .const (.int .i64 1)] #[26, 3, 3] (by kernel_rfl) (enters_of Try.func31 (by kernel_rfl) rfl) #[v1, .int .i64 s.size, .int .i64 1] (by kernel_rfl) (HQ2.out _ _ hH.2.size HO1.out) ?_
    rintro e W3 ⟨v2, rfl, ho, hB⟩
    replace hH : NAt b i s W3 ∧ Below W1.heap.size W1.drew W3 := ⟨hH.1.below hB HN.out.lt, hH.2.trans hB⟩
    have HO2 := Hid.mk ho
    clear ho hB
    refine ⟨_, rfl, hH, ?_⟩
    simp only [List.setIfInBounds_toArray, List.set_cons_zero, List.set_cons_succ]
    obtain ⟨v3, W4, hr, ho, hB⟩ := append_str_run W3 W1.heap.size v2 (0 + 4 + 1) _ s HO2.out hH.2.size (by omega)
    replace hH : NAt b i s W4 ∧ Below W1.heap.size W1.drew W4 := ⟨hH.1.below hB HN.out.lt, hH.2.trans hB⟩
    have HO3 := Hid.mk ho
    have HR3 := Hid.mk hr
    clear hr ho hB
    refine stepH_run 9 39 v3 W4 rfl (by kernel_rfl) (by kernel_rfl) (by kernel_rfl) (by
      unfold execOp
      simp only [resolve, invoke, builtin]
      simp [Act.eval, HR3.out]) hH ?_
    simp only [List.setIfInBounds_toArray, List.set_cons_zero, List.set_cons_succ]
    refine stepH_call 10 40 rfl (by kernel_rfl) (by kernel_rfl) (by kernel_rfl) 32 #[.tmp 39, .const (.int .i64 32)] #[26, 3] (by kernel_rfl) (enters_of Try.func32 (by kernel_rfl) rfl) #[v3, .int .i64 32] (by kernel_rfl) (HQ3.out _ _ hH.2.size HO3.out) ?_
    rintro e W5 ⟨v4, rfl, ho, hB⟩
    replace hH : NAt b i s W5 ∧ Below W1.heap.size W1.drew W5 := ⟨hH.1.below hB HN.out.lt, hH.2.trans hB⟩
    have HO4 := Hid.mk ho
    clear ho hB
    refine ⟨_, rfl, hH, ?_⟩
    simp only [List.setIfInBounds_toArray, List.set_cons_zero, List.set_cons_succ]
    refine takeH 11 2 (v4) rfl (by kernel_rfl) (by kernel_rfl) (by kernel_rfl) (by kernel_rfl) (fun _ _ _ h => h) (by kernel_rfl) (fun w hw => by kernel_rfl) hH ?_
    simp only [List.setIfInBounds_toArray, List.set_cons_zero, List.set_cons_succ]
    refine takeH 12 3 (.bool true) rfl (by kernel_rfl) (by kernel_rfl) (by kernel_rfl) (by kernel_rfl) (fun _ _ _ h => h) (by kernel_rfl) (fun w hw => by kernel_rfl) hH ?_
    simp only [List.setIfInBounds_toArray, List.set_cons_zero, List.set_cons_succ]
    refine wpAnyH_done (by kernel_rfl) ?_ _
    have HFIN := Hid.mk hH.2
    clear hH
    go_wp2_with fail
    go_ret2
    exact ⟨v4, rfl, owns_base HO4.out (Nat.le_of_lt HN.out.lt), HB1.out.drew.trans (HFIN.out.mono (Nat.le_of_lt HN.out.lt))⟩
end Ent
end Go.Proofs.Yteegopccpgbakaa
