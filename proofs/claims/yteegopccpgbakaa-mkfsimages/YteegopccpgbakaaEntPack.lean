/-
  Pack of the program.
-/
import Derived.Test.YteegopccpgbakaaEntSpec
import Derived.Deep.Cut
import Derived.Deep.CutRange
import Derived.Deep.CutBlock
import Derived.Lib.BufferWrite
namespace Go.Proofs.Yteegopccpgbakaa
open Go Go.Proofs Go.RowKit Go.Shelf
namespace Ent
theorem byteCells_nm (s : ByteArray) : Lib.byteCells s.data.toList = By (nm s) := by
  simp [Lib.byteCells, By, nm]
/-- copy(b, s), s a string. -/
theorem copy_str_run (W : World) (g o n c : Nat) (xs : List Int) (s : ByteArray) (h : RAt W g xs) (hn : s.size ≤ n) (hl : o + n ≤ xs.length) :
    ∃ W', (Builtin.copy_ #[26, 9] 3 #[.slice (some ⟨g, o, none⟩) n c, .string s]).run Try.prog W = .ok (.int .i64 s.size) W' ∧ RAt W' g (splice xs o (nm s)) ∧ Only (fun k => k = g) W W' := by
  obtain ⟨i0, hi, hz0, hz1, hz2⟩ := info5p
  have hsz : s.size = (nm s).length := (nm_length s).symm
  have hr := Lib.run_copy_row_string (P := Try.prog) W 26 9 3 5 g o n c s (By xs).toArray 5 Try.underlying26 (by rw [hi]; simp [hz1]) h (by omega) (by simp [By_length]; omega)
  refine ⟨W.setRow g (By (splice xs o (nm s))).toArray, hr.trans ?_, setRow_heap W g _ _ 5 _ h, (Only.refl (fun k => k = g) W).setRow (.inl rfl) _⟩
  rw [hsz, byteCells_nm]
  simp [splice, By]
  rfl
/-- One int as a row of ints. -/
theorem _root_.Go.Proofs.Yteegopccpgbakaa.LAt.one (w : World) (i : Int) : LAt (w.alloc (.cells #[.int .i64 i] 3)) (some ⟨w.heap.size, 0, none⟩) 1 [i] := by
  refine ⟨rfl, fun _ => ⟨_, rfl, by simp, fun k hk => ?_⟩⟩
  obtain rfl : k = 0 := by omega
  rw [add_zero, blk_cell (blk_new w _)]
  rfl
set_option maxHeartbeats 1000000 in
theorem maybe_any (w : World) (i : Int) (s : ByteArray) (hs : s.size ≤ 1000) : Calls Try.prog 61 #[entV i s] w fun e w' => e = .returned (.bool (isB i (nm s))) ∧ Below w.heap.size w w' := by
  obtain ⟨b, hb⟩ : ∃ b, b = w.heap.size := ⟨_, rfl⟩
  obtain ⟨W1, hW1⟩ : ∃ W1, W1 = w.alloc (.cells (entC i s).toArray 48) := ⟨_, rfl⟩
  have hN : NAt b i s W1 := by rw [hW1, hb]; exact NAt.new _ _ _
  have hB1 : Below b w W1 := by rw [hW1]; exact (Below.refl _ w).alloc (by omega) _
  obtain ⟨hc0, hc1⟩ := hN.cell
  rw [← hb]
  have HB1 := Hid.mk hB1
  have HN := Hid.mk hN
  have HBE := Hid.mk hb
  have HW1 := Hid.mk hW1
  clear hB1 hN hb hW1
  by_cases h0 : i = 0
  · subst h0
    have HI := Hid.mk (isB_zero (nm s))
    have hE := nm_empty s
    have HE : Hid (s.toList.isEmpty = decide (nm s = [])) := Hid.mk (by
      rw [hE]; congr 1; rw [eq_iff_iff, ← nm_length]; exact List.length_eq_zero_iff)
    clear hE
    go_enter Try.func61, Try.ntmps61
    go_wp2_with (refine wpL_box (.tmp 0) rfl rfl 0 s b W1 HBE.out HW1.out rfl ?_)
    go_ret
    exact ⟨by rw [HI.out, ← HE.out]; rfl, HB1.out⟩
  · have HI := Hid.mk (isB_some h0 (nm s))
    have h0' : (i == 0) = false := by simp [h0]
    have hbl : Below W1.heap.size W1 (W1.alloc (.cells #[.int .i64 i] 3)) := (Below.refl _ W1).alloc (Nat.le_refl _) _
    have HB2 := Hid.mk (HB1.out.trans (hbl.mono (Nat.le_of_lt HN.out.lt)))
    have hc2 := (HN.out.below hbl HN.out.lt).cell.2
    have HF : Hid (fitL 4294967295 [i] = fitB 4294967295 i) := Hid.mk (by simp [fitL])
    clear hbl
    cases hf : fitB 4294967295 i with
    | false =>
      have HR := Hid.mk (show isB i (nm s) = false by rw [HI.out, hf]; rfl)
      have H1 := Hid.mk (HF.out.trans hf)
      clear hf HI HF
      go_enter Try.func61, Try.ntmps61
      go_wp2_with (first
        | (refine wpL_box (.tmp 0) rfl rfl i s b W1 HBE.out HW1.out rfl ?_)
        | (go_at_call 50; refine (fits32_any _ _ 1 1 [i] (LAt.one _ _) (by omega)).mono ?_; rintro e w' ⟨rfl, hw⟩; subst w'; rw [H1.out]))
      go_ret
      exact ⟨by rw [HR.out]; rfl, HB2.out⟩
    | true =>
      have HR := Hid.mk (show isB i (nm s) = nameB (nm s) by rw [HI.out, hf]; rfl)
      have H1 := Hid.mk (HF.out.trans hf)
      clear hf HI HF
      go_enter Try.func61, Try.ntmps61
      go_wp2_with (first
        | (refine wpL_box (.tmp 0) rfl rfl i s b W1 HBE.out HW1.out rfl ?_)
        | (go_at_call 50; refine (fits32_any _ _ 1 1 [i] (LAt.one _ _) (by omega)).mono ?_; rintro e w' ⟨rfl, hw⟩; subst w'; rw [H1.out])
        | (go_at_call 62; refine (name_any _ s hs).mono ?_; rintro e w' ⟨rfl, hw⟩; subst w'))
      go_ret
      exact ⟨by rw [HR.out]; rfl, HB2.out⟩
/-- What Pack holds in memory: the entry, the row that it makes. -/
structure PkAt (w : World) (b g : Nat) (i : Int) (s : ByteArray) (xs : List Int) (W : World) : Prop where
  ent : NAt b i s W
  row : RAt W g xs
  below : Below b w W
  lt : b < g
theorem PkAt.put {w W W' : World} {b g : Nat} {i : Int} {s : ByteArray} {xs ys : List Int} (h : PkAt w b g i s xs W) (hr : RAt W' g ys) (ho : Only (fun k => k = g) W W') : PkAt w b g i s ys W' :=
  ⟨h.ent.only ho (by have := h.lt; omega), hr, h.below.trans (ho.below (Nat.le_of_lt h.ent.lt) (fun k e => by have := h.lt; omega)), h.lt⟩
theorem PkAt.then {w W W' : World} {b g : Nat} {i : Int} {s : ByteArray} {xs : List Int} (h : PkAt w b g i s xs W) (hb : Below W.heap.size W W') : PkAt w b g i s xs W' :=
  ⟨h.ent.below hb h.ent.lt, h.row.below hb h.row.lt, h.below.trans (hb.mono (Nat.le_of_lt h.ent.lt)), h.lt⟩
theorem PkAt.drew {w W : World} {b g : Nat} {i : Int} {s : ByteArray} {xs : List Int} (h : PkAt w b g i s xs W) : PkAt w b g i s xs W.drew := ⟨h.ent, h.row, h.below.drew, h.lt⟩
theorem pack_no (w : World) (i : Int) (s : ByteArray) (hs : s.size ≤ 1000) (hf : isB i (nm s) = false) : Calls Try.prog 52 #[entV i s] w fun e w' => e = .returned (.tuple #[.slice none 0 0, .int .i64 1]) ∧ Below w.heap.size w w' := by
  obtain ⟨b, hb⟩ : ∃ b, b = w.heap.size := ⟨_, rfl⟩
  obtain ⟨W1, hW1⟩ : ∃ W1, W1 = w.alloc (.cells (entC i s).toArray 48) := ⟨_, rfl⟩
  have hN : NAt b i s W1 := by rw [hW1, hb]; exact NAt.new _ _ _
  have hB1 : Below b w W1 := by rw [hW1]; exact (Below.refl _ w).alloc (by omega) _
  rw [← hb]
  have HB1 := Hid.mk hB1
  have HN := Hid.mk hN
  have HBE := Hid.mk hb
  have HW1 := Hid.mk hW1
  have HF := Hid.mk hf
  clear hB1 hN hb hW1 hf
  go_enter Try.func52, Try.ntmps52
  go_wp2_with (first
    | (refine wpL_box (.tmp 0) rfl rfl i s b W1 HBE.out HW1.out rfl ?_)
    | (refine wpL_load (.tmp 1) rfl rfl b i s rfl HN.out ?_)
    | (go_at_call 61; refine (maybe_any _ i s hs).mono ?_; rintro e W2 ⟨rfl, hb2⟩; rw [HF.out]; have HB2 := Hid.mk hb2; clear hb2))
  go_ret2
  exact ⟨rfl, HB1.out.trans (HB2.out.mono (Nat.le_of_lt HN.out.lt))⟩
set_option maxHeartbeats 1000000 in
theorem pack_yes (w : World) (i : Int) (s : ByteArray) (hf : isB i (nm s) = true) : Calls Try.prog 52 #[entV i s] w fun e w' => ∃ g, e = .returned (.tuple #[.slice (some ⟨g, 0, none⟩) 32 32, .int .i64 0]) ∧ RAt w' g (entL i (nm s)) ∧ w.heap.size < g ∧ Below w.heap.size w w' := by
  obtain ⟨hi, hl⟩ := isB_parts hf
  have hs : s.size ≤ 27 := by rw [← nm_length]; exact hl
  obtain ⟨b, hb⟩ : ∃ b, b = w.heap.size := ⟨_, rfl⟩
  obtain ⟨W1, hW1⟩ : ∃ W1, W1 = w.alloc (.cells (entC i s).toArray 48) := ⟨_, rfl⟩
  have hN : NAt b i s W1 := by rw [hW1, hb]; exact NAt.new _ _ _
  have hB1 : Below b w W1 := by rw [hW1]; exact (Below.refl _ w).alloc (by omega) _
  rw [← hb]
  have HB1 := Hid.mk hB1
  have HN := Hid.mk hN
  have HBE := Hid.mk hb
  have HW1 := Hid.mk hW1
  have HF := Hid.mk hf
  clear hB1 hN hb hW1 hf hl
  go_enter Try.func52, Try.ntmps52
  go_upto_region 3 with (first
    | (refine wpL_box (.tmp 0) rfl rfl i s b W1 HBE.out HW1.out rfl ?_)
    | (refine wpL_load (.tmp 1) rfl rfl b i s rfl HN.out ?_)
    | (go_at_call 61; refine (maybe_any _ i s (by omega)).mono ?_; rintro e W2 ⟨rfl, hb2⟩; rw [HF.out]; have HB2 := Hid.mk hb2; clear hb2))
  obtain ⟨g, hg⟩ : ∃ g, g = W2.heap.size := ⟨_, rfl⟩
  obtain ⟨W3, hW3⟩ : ∃ W3, W3 = W2.alloc (.cells (By (zeros 32)).toArray 5) := ⟨_, rfl⟩
  have hMK := make_run W2 32 (by omega)
  rw [← hg] at hMK
  change _ = Result.ok _ (W2.alloc (.cells (By (zeros 32)).toArray 5)) at hMK
  rw [← hW3] at hMK
  have hP3 : PkAt w b g i s (zeros 32) W3 := by
    have h2 : NAt b i s W2 := HN.out.below HB2.out HN.out.lt
    have h3 : Below W2.heap.size W2 W3 := by rw [hW3]; exact (Below.refl _ W2).alloc (Nat.le_refl _) _
    exact ⟨h2.below h3 h2.lt, by rw [hW3, hg]; exact blk_new _ _, (HB1.out.trans (HB2.out.mono (Nat.le_of_lt HN.out.lt))).trans (h3.mono (Nat.le_of_lt h2.lt)), by rw [hg]; exact h2.lt⟩
  have hbl : Below W3.heap.size W3 (W3.alloc (.cells #[.int .i64 i] 3)) := (Below.refl _ W3).alloc (Nat.le_refl _) _
  have hP4 := hP3.then hbl
  have hc0 := hP3.ent.cell.1
  have HQ : Hid (Calls Try.prog 40 #[.slice (some ⟨g, 0, none⟩) 32 32, .slice (some ⟨W3.heap.size, 0, none⟩) 1 1] (W3.alloc (.cells #[.int .i64 i] 3)) fun e w' => e = .returned (.int .i64 4) ∧ PkAt w b g i s (splice (zeros 32) 0 (leLs 4 [i])) w') := Hid.mk (by
    refine (put32_any _ g 0 32 32 (zeros 32) (some ⟨W3.heap.size, 0, none⟩) 1 1 [i] hP4.row (LAt.one _ _) (fun a e => by cases e; exact fun e => by have := hP3.row.lt; simp at e; omega) (fun x hx => by simp at hx; subst hx; exact hi) (by omega) (by simp [zeros_length]) (by omega)).mono ?_
    rintro e w' ⟨rfl, h1, h2⟩
    exact ⟨rfl, hP4.put h1 h2⟩)
  have HMK := Hid.mk hMK
  clear hMK hP3 hP4 hbl hW3 hg HB2 HN HB1 HW1
  go_upto_region 6 with (first
    | (at_make; refine wpList_make_known rfl _ _ 26 rfl _ _ _ _ rfl rfl HMK.out ?_)
    | (go_at_call 40; refine HQ.out.mono ?_; rintro e W5 ⟨rfl, hp5⟩; have hc1 := hp5.ent.cell.2; have hc4 := blk_free hp5.row 4; have hc5 := blk_cell hp5.row 4; have HP5 := Hid.mk hp5; clear hp5))
  have hP6 : PkAt w b g i s ((leL i 4 ++ [((nm s).length : Int)]) ++ zeros 27) (W5.setCell ⟨g, 4, none⟩ (.int .u8 s.size)) := by
    refine HP5.out.put ?_ ((Only.refl (fun k => k = g) W5).setCell (.inl rfl) _)
    unfold RAt
    rw [blk_set HP5.out.row, By_setArr, put_len, nm_length]
  generalize W5.setCell ⟨g, 4, none⟩ (.int .u8 s.size) = W6 at hP6 ⊢
  obtain ⟨W7, hr7, hrow7, ho7⟩ := copy_str_run W6.drew g 5 27 27 _ s hP6.drew.row hs (by simp [leL_length, zeros_length])
  rw [put_name i (nm s) (by rw [nm_length]; exact hs)] at hrow7
  have HP7 := Hid.mk (hP6.drew.put hrow7 ho7)
  have HR7 := Hid.mk hr7
  have HP6 := Hid.mk hP6
  clear hP6 hr7 hrow7 ho7 HP5 HQ HMK hc0 hc1 hc4 hc5
  refine wp_region_held_drew (S := fun W => ∃ xs, PkAt w b g i s xs W) (by kernel_rfl) ⟨_, HP6.out.drew⟩ (fun hH => ?_)
  change wpAnyH Try.prog Region.Mode.any _ _ _ 5 _ _ _
  refine takeH 0 20 (.slice (some ⟨g, 0, none⟩) 32 32) rfl (by kernel_rfl) (by kernel_rfl) (by kernel_rfl) (by kernel_rfl) (fun _ _ _ h => h) (by kernel_rfl) (fun w hw => by kernel_rfl) hH ?_
  simp only [List.setIfInBounds_toArray, List.set_cons_zero, List.set_cons_succ]
  refine takeH 1 21 (.slice (some ⟨g, 5, none⟩) 27 27) rfl (by kernel_rfl) (by kernel_rfl) (by kernel_rfl) (by kernel_rfl) (fun _ _ _ h => h) (by kernel_rfl) (fun w hw => by (try dsimp only at hw); go_simp) hH ?_
  simp only [List.setIfInBounds_toArray, List.set_cons_zero, List.set_cons_succ]
  refine takeH 2 22 (.pointer (some ⟨b, 1, none⟩)) rfl (by kernel_rfl) (by kernel_rfl) (by kernel_rfl) (by kernel_rfl) (fun _ _ _ h => h) (by kernel_rfl) (fun w hw => by (try dsimp only at hw); go_simp) hH ?_
  simp only [List.setIfInBounds_toArray, List.set_cons_zero, List.set_cons_succ]
  refine takeH 3 23 (.string s) rfl (by kernel_rfl) (by kernel_rfl) (by kernel_rfl) (by kernel_rfl) (fun _ _ _ h => h) (by kernel_rfl) (fun w hw => by obtain ⟨xs, hp⟩ := hw; have h := hp.ent.cell.2; go_simp) hH ?_
  simp only [List.setIfInBounds_toArray, List.set_cons_zero, List.set_cons_succ]
  refine stepH_run 4 24 (.int .i64 s.size) W7 rfl (by kernel_rfl) (by kernel_rfl) (by kernel_rfl) (by
    unfold execOp
    simp only [resolve, invoke, builtin]
    simp [Act.eval, HR7.out]) ⟨_, HP7.out⟩ ?_
  simp only [List.setIfInBounds_toArray, List.set_cons_zero, List.set_cons_succ]
  refine wpAnyH_done (by kernel_rfl) ?_ _
  clear hH
  go_wp2_with fail
  go_ret2
  exact ⟨g, rfl, HP7.out.row, HP7.out.lt, HP7.out.below⟩
end Ent
end Go.Proofs.Yteegopccpgbakaa
