/-
  EntryPacks: the bytes of every entry, or that it has none, and that they are read as it.
-/
import Derived.Test.YtpdekpdlmfnndaaReadRef
namespace Go.Proofs.Ytpdekpdlmfnndaa
open Go Go.Proofs Go.RowKit Go.Shelf

theorem BAt.nil (w : World) : BAt w none 0 [] := ⟨rfl, fun h => absurd h (Nat.lt_irrefl 0)⟩
theorem BAt.below {W W' : World} {ao : Option Addr} {n : Nat} {xs : List Int} (h : BAt W ao n xs) (hB : Below W.heap.size W W') : BAt W' ao n xs := h.only (Only.of_new (fun _ => False) hB) (fun _ _ _ h => h)
/-- A new variable for an entry. -/
theorem var26 (W : World) (i : Int) (s : ByteArray) : ∃ X Y d, (Instr.alloc 26 true (.tuple #[])).run Try.prog W = .ok (.pointer (some ⟨d, 0, none⟩)) X ∧ (Instr.storeAt 26 (.pointer (some ⟨d, 0, none⟩)) (entV i s)).run Try.prog X = .ok () Y ∧ NAt d i s Y ∧ Below W.heap.size W Y ∧ W.heap.size ≤ d := by
  obtain ⟨X, d, hrX, hX, hXB, hXb⟩ := alloc26_any W
  obtain ⟨Y, hrY, hY, hYo⟩ := store26_run (j := i) (t := s) hX
  exact ⟨X, Y, d, hrX, hrY, hY, hXB.trans (hYo.below hXB.size (fun k e => by rw [e]; exact hXb)), hXb⟩
theorem rpack_yes2 (w : World) (i : Int) (s : ByteArray) (hf : isB i (nm s) = true) : Calls Try.prog 13 #[entV i s] w fun e w' => ∃ ao c, e = .returned (.tuple #[.slice ao 32 c, .bool true]) ∧ BAt w' ao 32 (entL i (nm s)) ∧ Below w.heap.size w w' := by
  refine (rpack_yes w i s hf).mono ?_
  rintro e w' ⟨v, rfl, ho, hB⟩
  obtain ⟨ao, c, rfl, hb, -⟩ := owns_BAt ho
  exact ⟨ao, c, rfl, hb, hB⟩

set_option maxRecDepth 100000 in
set_option maxHeartbeats 4000000 in
theorem packs_any (w : World) (i : Int) (s : ByteArray) : Calls Try.prog 4 #[entV i s] w fun e w' => e = .returned (.bool true) ∧ Below w.heap.size w w' := by
  obtain ⟨b, hb⟩ : ∃ b, b = w.heap.size := ⟨_, rfl⟩
  obtain ⟨W1, hW1⟩ : ∃ W1, W1 = w.alloc (.cells (entC i s).toArray 26) := ⟨_, rfl⟩
  have hN : NAt b i s W1 := by rw [hW1, hb]; exact NAt.new _ _ _
  have hB1 : Below b w W1 := by rw [hW1]; exact (Below.refl _ w).alloc (by omega) _
  rw [← hb]
  have HB := Hid.mk hB1
  have HN := Hid.mk hN
  have HBE := Hid.mk hb
  have HW1 := Hid.mk hW1
  clear hB1 hN hb hW1
  by_cases hs : 1000 < s.size
  · go_enter Try.func4, Try.ntmps4
    go_wp2_with (first
      | (refine wpL_box (.tmp 0) rfl rfl i s b W1 HBE.out HW1.out rfl ?_)
      | (go_at_call 8; refine (alive_any _).mono ?_; rintro e W2 ⟨rfl, hB⟩; replace HB := Hid.mk (HB.out.trans (hB.mono (Nat.le_of_lt HN.out.lt))); replace HN := Hid.mk (HN.out.below hB HN.out.lt); have hcs := HN.out.cell.2; clear hB))
    go_ret
    exact ⟨rfl, HB.out⟩
  have HS : Hid (s.size ≤ 1000) := Hid.mk (by omega)
  have HSM := Hid.mk (name_any (s := s) (hs := HS.out))
  have HSR := Hid.mk (rname_any (s := s) (hs := HS.out))
  generalize hnb : nameB (nm s) = nb at HSM HSR
  clear hnb
  cases hf : isB i (nm s) with
  | false =>
    have HP := Hid.mk (fun W => pack_no W i s HS.out hf)
    have HQ := Hid.mk (fun W => rpack_no W i s HS.out hf)
    obtain ⟨SX, hSX⟩ : ∃ SX, SX = strOfNums [] := ⟨_, rfl⟩
    have HSX := Hid.mk hSX
    clear hf hSX
    go_enter Try.func4, Try.ntmps4
    go_upto_region 6 with (first
      | (refine wpL_box (.tmp 0) rfl rfl i s b W1 HBE.out HW1.out rfl ?_)
      | (go_at_call 8; refine (alive_any _).mono ?_; rintro e W2 ⟨rfl, hB⟩; replace HB := Hid.mk (HB.out.trans (hB.mono (Nat.le_of_lt HN.out.lt))); replace HN := Hid.mk (HN.out.below hB HN.out.lt); have hcs := HN.out.cell.2; clear hB)
      | (refine wpL_load (.tmp 1) rfl rfl b i s rfl HN.out ?_)
      | (go_at_call 12; refine (HP.out _).mono ?_; rintro e W3 ⟨rfl, hB⟩; replace HB := Hid.mk (HB.out.trans (hB.mono (Nat.le_of_lt HN.out.lt))); replace HN := Hid.mk (HN.out.below hB HN.out.lt); clear hB)
      | (go_at_call 13; refine (HQ.out _).mono ?_; rintro e W4 ⟨rfl, hB⟩; replace HB := Hid.mk (HB.out.trans (hB.mono (Nat.le_of_lt HN.out.lt))); replace HN := Hid.mk (HN.out.below hB HN.out.lt); clear hB))
    clear hcs
    have HCS := Hid.mk HN.out.cell.2
    have HC4 : Hid ((convert 27 9 (.slice none 0 0)).run Try.prog W4.drew = .ok (.string SX) W4.drew) := Hid.mk (by rw [HSX.out]; exact conv_bytes _ _ _ _ _ (BAt.nil _))
    have HC6 := HC4
    go_cut [59] from 30 to 58 (fun v wx => v = .bool false ∧ wx = W4.drew)
    case first =>
      refine wp_region_held_drew (S := fun W => W = W4.drew) (by kernel_rfl) rfl (fun hH => ?_)
      change wpAnyH Try.prog Region.Mode.any _ _ _ 30 _ _ _
      refine takeH 0 30 (.int .i64 1) rfl (by kernel_rfl) (by kernel_rfl) (by kernel_rfl) (by kernel_rfl) (fun _ _ _ h => h) (by kernel_rfl) (fun w hw => by kernel_rfl) hH ?_
      simp only [List.setIfInBounds_toArray, List.set_cons_zero, List.set_cons_succ]
      refine takeH 3 33 (.bool false) rfl (by kernel_rfl) (by kernel_rfl) (by kernel_rfl) (by kernel_rfl) (fun _ _ _ h => h) (by kernel_rfl) (fun w hw => by kernel_rfl) hH ?_
      simp only [List.setIfInBounds_toArray, List.set_cons_zero, List.set_cons_succ]
      refine stepH_call 1 31 rfl (by kernel_rfl) (by kernel_rfl) (by kernel_rfl) 10 #[.tmp 30] #[28] (by kernel_rfl) (enters_of Try.func10 (by kernel_rfl) rfl) #[.int .i64 1] (by kernel_rfl) (num_any _ _) ?_
      rintro e w' ⟨rfl, hw⟩
      subst w'
      refine ⟨_, rfl, hH, ?_⟩
      simp only [List.setIfInBounds_toArray, List.set_cons_zero, List.set_cons_succ]
      refine takeH 2 32 (.bool false) rfl (by kernel_rfl) (by kernel_rfl) (by kernel_rfl) (by kernel_rfl) (fun _ _ _ h => h) (by kernel_rfl) (fun w hw => by kernel_rfl) hH ?_
      simp only [List.setIfInBounds_toArray, List.set_cons_zero, List.set_cons_succ]
      refine takeH 4 34 (.bool false) rfl (by kernel_rfl) (by kernel_rfl) (by kernel_rfl) (by kernel_rfl) (fun _ _ _ h => h) (by kernel_rfl) (fun w hw => by kernel_rfl) hH ?_
      simp only [List.setIfInBounds_toArray, List.set_cons_zero, List.set_cons_succ]
      refine takeH 5 35 (.bool false) rfl (by kernel_rfl) (by kernel_rfl) (by kernel_rfl) (by kernel_rfl) (fun _ _ _ h => h) (by kernel_rfl) (fun w hw => by kernel_rfl) hH ?_
      simp only [List.setIfInBounds_toArray, List.set_cons_zero, List.set_cons_succ]
      refine takeH 6 36 (.bool false) rfl (by kernel_rfl) (by kernel_rfl) (by kernel_rfl) (by kernel_rfl) (fun _ _ _ h => h) (by kernel_rfl) (fun w hw => by kernel_rfl) hH ?_
      simp only [List.setIfInBounds_toArray, List.set_cons_zero, List.set_cons_succ]
      refine takeH 7 37 (.bool true) rfl (by kernel_rfl) (by kernel_rfl) (by kernel_rfl) (by kernel_rfl) (fun _ _ _ h => h) (by kernel_rfl) (fun w hw => by kernel_rfl) hH ?_
      simp only [List.setIfInBounds_toArray, List.set_cons_zero, List.set_cons_succ]
      refine takeH 8 38 (.bool true) rfl (by kernel_rfl) (by kernel_rfl) (by kernel_rfl) (by kernel_rfl) (fun _ _ _ h => h) (by kernel_rfl) (fun w hw => by kernel_rfl) hH ?_
      simp only [List.setIfInBounds_toArray, List.set_cons_zero, List.set_cons_succ]
      refine takeH 9 39 (.int .i64 1) rfl (by kernel_rfl) (by kernel_rfl) (by kernel_rfl) (by kernel_rfl) (fun _ _ _ h => h) (by kernel_rfl) (fun w hw => by kernel_rfl) hH ?_
      simp only [List.setIfInBounds_toArray, List.set_cons_zero, List.set_cons_succ]
      refine stepH_call 10 40 rfl (by kernel_rfl) (by kernel_rfl) (by kernel_rfl) 10 #[.tmp 39] #[28] (by kernel_rfl) (enters_of Try.func10 (by kernel_rfl) rfl) #[.int .i64 1] (by kernel_rfl) (num_any _ _) ?_
      rintro e w' ⟨rfl, hw⟩
      subst w'
      refine ⟨_, rfl, hH, ?_⟩
      simp only [List.setIfInBounds_toArray, List.set_cons_zero, List.set_cons_succ]
      refine takeH 11 41 (.bool false) rfl (by kernel_rfl) (by kernel_rfl) (by kernel_rfl) (by kernel_rfl) (fun _ _ _ h => h) (by kernel_rfl) (fun w hw => by kernel_rfl) hH ?_
      simp only [List.setIfInBounds_toArray, List.set_cons_zero, List.set_cons_succ]
      refine takeH 12 42 (.bool false) rfl (by kernel_rfl) (by kernel_rfl) (by kernel_rfl) (by kernel_rfl) (fun _ _ _ h => h) (by kernel_rfl) (fun w hw => by kernel_rfl) hH ?_
      simp only [List.setIfInBounds_toArray, List.set_cons_zero, List.set_cons_succ]
      refine takeH 13 43 (.bool false) rfl (by kernel_rfl) (by kernel_rfl) (by kernel_rfl) (by kernel_rfl) (fun _ _ _ h => h) (by kernel_rfl) (fun w hw => by kernel_rfl) hH ?_
      simp only [List.setIfInBounds_toArray, List.set_cons_zero, List.set_cons_succ]
      refine takeH 14 44 (.bool false) rfl (by kernel_rfl) (by kernel_rfl) (by kernel_rfl) (by kernel_rfl) (fun _ _ _ h => h) (by kernel_rfl) (fun w hw => by kernel_rfl) hH ?_
      simp only [List.setIfInBounds_toArray, List.set_cons_zero, List.set_cons_succ]
      refine takeH 15 45 (.slice none 0 0) rfl (by kernel_rfl) (by kernel_rfl) (by kernel_rfl) (by kernel_rfl) (fun _ _ _ h => h) (by kernel_rfl) (fun w hw => by kernel_rfl) hH ?_
      simp only [List.setIfInBounds_toArray, List.set_cons_zero, List.set_cons_succ]
      refine takeH 16 46 (.string SX) rfl (by kernel_rfl) (by kernel_rfl) (by kernel_rfl) (by kernel_rfl) (fun _ _ _ h => h) (by kernel_rfl) (fun w hw => by subst hw; exact exec_convert (x := .tmp 45) rfl (by kernel_rfl) HC4.out) hH ?_
      simp only [List.setIfInBounds_toArray, List.set_cons_zero, List.set_cons_succ]
      refine takeH 17 47 (.slice none 0 0) rfl (by kernel_rfl) (by kernel_rfl) (by kernel_rfl) (by kernel_rfl) (fun _ _ _ h => h) (by kernel_rfl) (fun w hw => by kernel_rfl) hH ?_
      simp only [List.setIfInBounds_toArray, List.set_cons_zero, List.set_cons_succ]
      refine takeH 18 48 (.string SX) rfl (by kernel_rfl) (by kernel_rfl) (by kernel_rfl) (by kernel_rfl) (fun _ _ _ h => h) (by kernel_rfl) (fun w hw => by subst hw; exact exec_convert (x := .tmp 47) rfl (by kernel_rfl) HC6.out) hH ?_
      simp only [List.setIfInBounds_toArray, List.set_cons_zero, List.set_cons_succ]
      refine takeH 19 49 (.bool false) rfl (by kernel_rfl) (by kernel_rfl) (by kernel_rfl) (by kernel_rfl) (fun _ _ _ h => h) (by kernel_rfl) (fun w hw => by exact exec_strneq (x := .tmp 46) (y := .tmp 48) (s := SX) (t := SX) true (by simp) rfl (by kernel_rfl) (by kernel_rfl)) hH ?_
      simp only [List.setIfInBounds_toArray, List.set_cons_zero, List.set_cons_succ]
      refine takeH 20 50 (.bool false) rfl (by kernel_rfl) (by kernel_rfl) (by kernel_rfl) (by kernel_rfl) (fun _ _ _ h => h) (by kernel_rfl) (fun w hw => by kernel_rfl) hH ?_
      simp only [List.setIfInBounds_toArray, List.set_cons_zero, List.set_cons_succ]
      refine takeH 21 51 (.bool false) rfl (by kernel_rfl) (by kernel_rfl) (by kernel_rfl) (by kernel_rfl) (fun _ _ _ h => h) (by kernel_rfl) (fun w hw => by kernel_rfl) hH ?_
      simp only [List.setIfInBounds_toArray, List.set_cons_zero, List.set_cons_succ]
      refine takeH 22 52 (.pointer (some ⟨b, 1, none⟩)) rfl (by kernel_rfl) (by kernel_rfl) (by kernel_rfl) (by kernel_rfl) (fun _ _ _ h => h) (by kernel_rfl) (fun w hw => by (try dsimp only at hw); go_simp) hH ?_
      simp only [List.setIfInBounds_toArray, List.set_cons_zero, List.set_cons_succ]
      refine takeH 23 53 (.string s) rfl (by kernel_rfl) (by kernel_rfl) (by kernel_rfl) (by kernel_rfl) (fun _ _ _ h => h) (by kernel_rfl) (fun w hw => by subst hw; have h := HCS.out; change W4.drew.cell? _ = _ at h; go_simp) hH ?_
      simp only [List.setIfInBounds_toArray, List.set_cons_zero, List.set_cons_succ]
      refine takeH 25 55 (.pointer (some ⟨b, 1, none⟩)) rfl (by kernel_rfl) (by kernel_rfl) (by kernel_rfl) (by kernel_rfl) (fun _ _ _ h => h) (by kernel_rfl) (fun w hw => by (try dsimp only at hw); go_simp) hH ?_
      simp only [List.setIfInBounds_toArray, List.set_cons_zero, List.set_cons_succ]
      refine takeH 26 56 (.string s) rfl (by kernel_rfl) (by kernel_rfl) (by kernel_rfl) (by kernel_rfl) (fun _ _ _ h => h) (by kernel_rfl) (fun w hw => by subst hw; have h := HCS.out; change W4.drew.cell? _ = _ at h; go_simp) hH ?_
      simp only [List.setIfInBounds_toArray, List.set_cons_zero, List.set_cons_succ]
      refine stepH_call 24 54 rfl (by kernel_rfl) (by kernel_rfl) (by kernel_rfl) 14 #[.tmp 53] #[9] (by kernel_rfl) (enters_of Try.func14 (by kernel_rfl) rfl) #[.string s] (by kernel_rfl) (HSM.out _) ?_
      rintro e w' ⟨rfl, hw⟩
      subst w'
      refine ⟨_, rfl, hH, ?_⟩
      simp only [List.setIfInBounds_toArray, List.set_cons_zero, List.set_cons_succ]
      refine stepH_call 27 57 rfl (by kernel_rfl) (by kernel_rfl) (by kernel_rfl) 15 #[.tmp 56] #[9] (by kernel_rfl) (enters_of Try.func15 (by kernel_rfl) rfl) #[.string s] (by kernel_rfl) (HSR.out _) ?_
      rintro e w' ⟨rfl, hw⟩
      subst w'
      refine ⟨_, rfl, hH, ?_⟩
      simp only [List.setIfInBounds_toArray, List.set_cons_zero, List.set_cons_succ]
      refine takeH 28 58 (.bool false) rfl (by kernel_rfl) (by kernel_rfl) (by kernel_rfl) (by kernel_rfl) (fun _ _ _ h => h) (by kernel_rfl) (fun w hw => by cases nb <;> kernel_rfl) hH ?_
      simp only [List.setIfInBounds_toArray, List.set_cons_zero, List.set_cons_succ]
      refine takeH 29 59 (.bool false) rfl (by kernel_rfl) (by kernel_rfl) (by kernel_rfl) (by kernel_rfl) (fun _ _ _ h => h) (by kernel_rfl) (fun w hw => by kernel_rfl) hH ?_
      simp only [List.setIfInBounds_toArray, List.set_cons_zero, List.set_cons_succ]
      refine wpAnyH_done (by kernel_rfl) ?_ _
      clear hH
      go_wp2_with fail
      go_meet
      case rel => exact ⟨rfl, rfl⟩
    case rest =>
      obtain ⟨rfl, rfl⟩ := hcut
      go_wp2
      go_ret
      exact ⟨rfl, HB.out.drew⟩
  | true =>
    have HP := Hid.mk (fun W => pack_yes W i s hf)
    have HQ := Hid.mk (fun W => rpack_yes2 W i s hf)
    have hpl := isB_parts hf
    have HIL := Hid.mk (entL_length i (nm s) hpl.2)
    have HIB := Hid.mk (entL_bound i (nm s) hpl.2 (nm_bound s))
    have HRD : Hid (∀ W g, RAt W g (entL i (nm s)) → Calls Try.prog 16 #[.slice (some ⟨g, 0, none⟩) 32 32] W fun e w' => e = .returned (.tuple #[entV i s, .int .i64 0]) ∧ Below W.heap.size W w') := Hid.mk (fun W g hr => by
      have h := read_any W (some ⟨g, 0, none⟩) 32 32 (entL i (nm s)) (hr.full HIL.out) HIB.out (by omega) (by omega)
      rwa [(ent_reads hf).1, (ent_reads hf).2.1, (ent_reads hf).2.2] at h)
    obtain ⟨SX, hSX⟩ : ∃ SX, SX = strOfNums (entL i (nm s)) := ⟨_, rfl⟩
    have HSX := Hid.mk hSX
    clear hf hSX hpl
    go_enter Try.func4, Try.ntmps4
    go_upto_region 6 with (first
      | (refine wpL_box (.tmp 0) rfl rfl i s b W1 HBE.out HW1.out rfl ?_)
      | (go_at_call 8; refine (alive_any _).mono ?_; rintro e W2 ⟨rfl, hB⟩; replace HB := Hid.mk (HB.out.trans (hB.mono (Nat.le_of_lt HN.out.lt))); replace HN := Hid.mk (HN.out.below hB HN.out.lt); have hcs := HN.out.cell.2; clear hB)
      | (refine wpL_load (.tmp 1) rfl rfl b i s rfl HN.out ?_)
      | (go_at_call 12; refine (HP.out _).mono ?_; rintro e W3 ⟨g, rfl, hrow, hge, hB⟩; replace HB := Hid.mk (HB.out.trans (hB.mono (Nat.le_of_lt HN.out.lt))); replace HN := Hid.mk (HN.out.below hB HN.out.lt); have HRW := Hid.mk hrow; clear hB hrow hge HP)
      | (go_at_call 13; refine (HQ.out _).mono ?_; rintro e W4 ⟨ao, vc, rfl, hba, hB⟩; replace HRW := Hid.mk (HRW.out.below hB HRW.out.lt); replace HB := Hid.mk (HB.out.trans (hB.mono (Nat.le_of_lt HN.out.lt))); replace HN := Hid.mk (HN.out.below hB HN.out.lt); have HBA := Hid.mk hba; clear hB hba))
    clear hcs
    have HCS := Hid.mk HN.out.cell.2
    have HC4 : Hid ((convert 27 9 (.slice (some ⟨g, 0, none⟩) 32 32)).run Try.prog W4.drew = .ok (.string SX) W4.drew) := Hid.mk (by rw [HSX.out]; exact conv_bytes W4.drew _ _ _ _ (HRW.out.full HIL.out))
    have HC6 : Hid ((convert 27 9 (.slice ao 32 vc)).run Try.prog W4.drew = .ok (.string SX) W4.drew) := Hid.mk (by rw [HSX.out]; exact conv_bytes W4.drew _ _ _ _ HBA.out)
    go_cut [59] from 30 to 58 (fun v wx => v = .bool false ∧ wx = W4.drew)
    case first =>
      refine wp_region_held_drew (S := fun W => W = W4.drew) (by kernel_rfl) rfl (fun hH => ?_)
      change wpAnyH Try.prog Region.Mode.any _ _ _ 30 _ _ _
      refine takeH 0 30 (.int .i64 0) rfl (by kernel_rfl) (by kernel_rfl) (by kernel_rfl) (by kernel_rfl) (fun _ _ _ h => h) (by kernel_rfl) (fun w hw => by kernel_rfl) hH ?_
      simp only [List.setIfInBounds_toArray, List.set_cons_zero, List.set_cons_succ]
      refine takeH 3 33 (.bool true) rfl (by kernel_rfl) (by kernel_rfl) (by kernel_rfl) (by kernel_rfl) (fun _ _ _ h => h) (by kernel_rfl) (fun w hw => by kernel_rfl) hH ?_
      simp only [List.setIfInBounds_toArray, List.set_cons_zero, List.set_cons_succ]
      refine stepH_call 1 31 rfl (by kernel_rfl) (by kernel_rfl) (by kernel_rfl) 10 #[.tmp 30] #[28] (by kernel_rfl) (enters_of Try.func10 (by kernel_rfl) rfl) #[.int .i64 0] (by kernel_rfl) (num_any _ _) ?_
      rintro e w' ⟨rfl, hw⟩
      subst w'
      refine ⟨_, rfl, hH, ?_⟩
      simp only [List.setIfInBounds_toArray, List.set_cons_zero, List.set_cons_succ]
      refine takeH 2 32 (.bool true) rfl (by kernel_rfl) (by kernel_rfl) (by kernel_rfl) (by kernel_rfl) (fun _ _ _ h => h) (by kernel_rfl) (fun w hw => by kernel_rfl) hH ?_
      simp only [List.setIfInBounds_toArray, List.set_cons_zero, List.set_cons_succ]
      refine takeH 4 34 (.bool false) rfl (by kernel_rfl) (by kernel_rfl) (by kernel_rfl) (by kernel_rfl) (fun _ _ _ h => h) (by kernel_rfl) (fun w hw => by kernel_rfl) hH ?_
      simp only [List.setIfInBounds_toArray, List.set_cons_zero, List.set_cons_succ]
      refine takeH 5 35 (.bool false) rfl (by kernel_rfl) (by kernel_rfl) (by kernel_rfl) (by kernel_rfl) (fun _ _ _ h => h) (by kernel_rfl) (fun w hw => by kernel_rfl) hH ?_
      simp only [List.setIfInBounds_toArray, List.set_cons_zero, List.set_cons_succ]
      refine takeH 6 36 (.bool true) rfl (by kernel_rfl) (by kernel_rfl) (by kernel_rfl) (by kernel_rfl) (fun _ _ _ h => h) (by kernel_rfl) (fun w hw => by kernel_rfl) hH ?_
      simp only [List.setIfInBounds_toArray, List.set_cons_zero, List.set_cons_succ]
      refine takeH 7 37 (.bool false) rfl (by kernel_rfl) (by kernel_rfl) (by kernel_rfl) (by kernel_rfl) (fun _ _ _ h => h) (by kernel_rfl) (fun w hw => by kernel_rfl) hH ?_
      simp only [List.setIfInBounds_toArray, List.set_cons_zero, List.set_cons_succ]
      refine takeH 8 38 (.bool false) rfl (by kernel_rfl) (by kernel_rfl) (by kernel_rfl) (by kernel_rfl) (fun _ _ _ h => h) (by kernel_rfl) (fun w hw => by kernel_rfl) hH ?_
      simp only [List.setIfInBounds_toArray, List.set_cons_zero, List.set_cons_succ]
      refine skipH 9 39 rfl (by kernel_rfl) (by kernel_rfl) (by kernel_rfl) (by kernel_rfl) (fun _ _ _ h => h) (by kernel_rfl) hH ?_
      simp only [List.setIfInBounds_toArray, List.set_cons_zero, List.set_cons_succ]
      refine skipH 10 40 rfl (by kernel_rfl) (by kernel_rfl) (by kernel_rfl) (by kernel_rfl) (fun _ _ _ h => h) (by kernel_rfl) hH ?_
      simp only [List.setIfInBounds_toArray, List.set_cons_zero, List.set_cons_succ]
      refine skipH 11 41 rfl (by kernel_rfl) (by kernel_rfl) (by kernel_rfl) (by kernel_rfl) (fun _ _ _ h => h) (by kernel_rfl) hH ?_
      simp only [List.setIfInBounds_toArray, List.set_cons_zero, List.set_cons_succ]
      refine takeH 12 42 (.bool false) rfl (by kernel_rfl) (by kernel_rfl) (by kernel_rfl) (by kernel_rfl) (fun _ _ _ h => h) (by kernel_rfl) (fun w hw => by kernel_rfl) hH ?_
      simp only [List.setIfInBounds_toArray, List.set_cons_zero, List.set_cons_succ]
      refine takeH 13 43 (.bool false) rfl (by kernel_rfl) (by kernel_rfl) (by kernel_rfl) (by kernel_rfl) (fun _ _ _ h => h) (by kernel_rfl) (fun w hw => by kernel_rfl) hH ?_
      simp only [List.setIfInBounds_toArray, List.set_cons_zero, List.set_cons_succ]
      refine takeH 14 44 (.bool false) rfl (by kernel_rfl) (by kernel_rfl) (by kernel_rfl) (by kernel_rfl) (fun _ _ _ h => h) (by kernel_rfl) (fun w hw => by kernel_rfl) hH ?_
      simp only [List.setIfInBounds_toArray, List.set_cons_zero, List.set_cons_succ]
      refine takeH 15 45 (.slice (some ⟨g, 0, none⟩) 32 32) rfl (by kernel_rfl) (by kernel_rfl) (by kernel_rfl) (by kernel_rfl) (fun _ _ _ h => h) (by kernel_rfl) (fun w hw => by kernel_rfl) hH ?_
      simp only [List.setIfInBounds_toArray, List.set_cons_zero, List.set_cons_succ]
      refine takeH 16 46 (.string SX) rfl (by kernel_rfl) (by kernel_rfl) (by kernel_rfl) (by kernel_rfl) (fun _ _ _ h => h) (by kernel_rfl) (fun w hw => by subst hw; exact exec_convert (x := .tmp 45) rfl (by kernel_rfl) HC4.out) hH ?_
      simp only [List.setIfInBounds_toArray, List.set_cons_zero, List.set_cons_succ]
      refine takeH 17 47 (.slice ao 32 vc) rfl (by kernel_rfl) (by kernel_rfl) (by kernel_rfl) (by kernel_rfl) (fun _ _ _ h => h) (by kernel_rfl) (fun w hw => by kernel_rfl) hH ?_
      simp only [List.setIfInBounds_toArray, List.set_cons_zero, List.set_cons_succ]
      refine takeH 18 48 (.string SX) rfl (by kernel_rfl) (by kernel_rfl) (by kernel_rfl) (by kernel_rfl) (fun _ _ _ h => h) (by kernel_rfl) (fun w hw => by subst hw; exact exec_convert (x := .tmp 47) rfl (by kernel_rfl) HC6.out) hH ?_
      simp only [List.setIfInBounds_toArray, List.set_cons_zero, List.set_cons_succ]
      refine takeH 19 49 (.bool false) rfl (by kernel_rfl) (by kernel_rfl) (by kernel_rfl) (by kernel_rfl) (fun _ _ _ h => h) (by kernel_rfl) (fun w hw => by exact exec_strneq (x := .tmp 46) (y := .tmp 48) (s := SX) (t := SX) true (by simp) rfl (by kernel_rfl) (by kernel_rfl)) hH ?_
      simp only [List.setIfInBounds_toArray, List.set_cons_zero, List.set_cons_succ]
      refine takeH 20 50 (.bool false) rfl (by kernel_rfl) (by kernel_rfl) (by kernel_rfl) (by kernel_rfl) (fun _ _ _ h => h) (by kernel_rfl) (fun w hw => by kernel_rfl) hH ?_
      simp only [List.setIfInBounds_toArray, List.set_cons_zero, List.set_cons_succ]
      refine takeH 21 51 (.bool false) rfl (by kernel_rfl) (by kernel_rfl) (by kernel_rfl) (by kernel_rfl) (fun _ _ _ h => h) (by kernel_rfl) (fun w hw => by kernel_rfl) hH ?_
      simp only [List.setIfInBounds_toArray, List.set_cons_zero, List.set_cons_succ]
      refine takeH 22 52 (.pointer (some ⟨b, 1, none⟩)) rfl (by kernel_rfl) (by kernel_rfl) (by kernel_rfl) (by kernel_rfl) (fun _ _ _ h => h) (by kernel_rfl) (fun w hw => by (try dsimp only at hw); go_simp) hH ?_
      simp only [List.setIfInBounds_toArray, List.set_cons_zero, List.set_cons_succ]
      refine takeH 23 53 (.string s) rfl (by kernel_rfl) (by kernel_rfl) (by kernel_rfl) (by kernel_rfl) (fun _ _ _ h => h) (by kernel_rfl) (fun w hw => by subst hw; have h := HCS.out; change W4.drew.cell? _ = _ at h; go_simp) hH ?_
      simp only [List.setIfInBounds_toArray, List.set_cons_zero, List.set_cons_succ]
      refine takeH 25 55 (.pointer (some ⟨b, 1, none⟩)) rfl (by kernel_rfl) (by kernel_rfl) (by kernel_rfl) (by kernel_rfl) (fun _ _ _ h => h) (by kernel_rfl) (fun w hw => by (try dsimp only at hw); go_simp) hH ?_
      simp only [List.setIfInBounds_toArray, List.set_cons_zero, List.set_cons_succ]
      refine takeH 26 56 (.string s) rfl (by kernel_rfl) (by kernel_rfl) (by kernel_rfl) (by kernel_rfl) (fun _ _ _ h => h) (by kernel_rfl) (fun w hw => by subst hw; have h := HCS.out; change W4.drew.cell? _ = _ at h; go_simp) hH ?_
      simp only [List.setIfInBounds_toArray, List.set_cons_zero, List.set_cons_succ]
      refine stepH_call 24 54 rfl (by kernel_rfl) (by kernel_rfl) (by kernel_rfl) 14 #[.tmp 53] #[9] (by kernel_rfl) (enters_of Try.func14 (by kernel_rfl) rfl) #[.string s] (by kernel_rfl) (HSM.out _) ?_
      rintro e w' ⟨rfl, hw⟩
      subst w'
      refine ⟨_, rfl, hH, ?_⟩
      simp only [List.setIfInBounds_toArray, List.set_cons_zero, List.set_cons_succ]
      refine stepH_call 27 57 rfl (by kernel_rfl) (by kernel_rfl) (by kernel_rfl) 15 #[.tmp 56] #[9] (by kernel_rfl) (enters_of Try.func15 (by kernel_rfl) rfl) #[.string s] (by kernel_rfl) (HSR.out _) ?_
      rintro e w' ⟨rfl, hw⟩
      subst w'
      refine ⟨_, rfl, hH, ?_⟩
      simp only [List.setIfInBounds_toArray, List.set_cons_zero, List.set_cons_succ]
      refine takeH 28 58 (.bool false) rfl (by kernel_rfl) (by kernel_rfl) (by kernel_rfl) (by kernel_rfl) (fun _ _ _ h => h) (by kernel_rfl) (fun w hw => by cases nb <;> kernel_rfl) hH ?_
      simp only [List.setIfInBounds_toArray, List.set_cons_zero, List.set_cons_succ]
      refine takeH 29 59 (.bool false) rfl (by kernel_rfl) (by kernel_rfl) (by kernel_rfl) (by kernel_rfl) (fun _ _ _ h => h) (by kernel_rfl) (fun w hw => by kernel_rfl) hH ?_
      simp only [List.setIfInBounds_toArray, List.set_cons_zero, List.set_cons_succ]
      refine wpAnyH_done (by kernel_rfl) ?_ _
      clear hH
      go_wp2_with fail
      go_meet
      case rel => exact ⟨rfl, rfl⟩
    case rest =>
      obtain ⟨rfl, rfl⟩ := hcut
      replace HRW : Hid (RAt W4.drew g (entL i (nm s))) := HRW
      replace HN : Hid (NAt b i s W4.drew) := HN
      replace HB : Hid (Below b w W4.drew) := Hid.mk HB.out.drew
      clear HBA HCS HC4 HC6
      generalize W4.drew = W5 at *
      go_wp2_with (first
        | (go_at_call 16; refine (HRD.out _ _ HRW.out).mono ?_; rintro e W6 ⟨rfl, hB⟩; replace HB := Hid.mk (HB.out.trans (hB.mono (Nat.le_of_lt HN.out.lt))); replace HN := Hid.mk (HN.out.below hB HN.out.lt); clear hB; obtain ⟨X, Y, d, hrX, hrY, hD, hB, hd⟩ := var26 W6 i s; replace HB := Hid.mk (HB.out.trans (hB.mono (Nat.le_of_lt HN.out.lt))); replace HN := Hid.mk (HN.out.below hB HN.out.lt); have HD := Hid.mk hD; have HRX := Hid.mk hrX; have HRY := Hid.mk hrY; clear hB hrX hrY hD hd)
        | (refine wpL_new rfl rfl _ X HRX.out ?_)
        | (refine wpL_store (.tmp 8) (.tmp 65) rfl rfl _ _ Y rfl rfl HRY.out ?_)
        | (go_at_call 10; refine (num_any _ _).mono ?_; rintro e w3 ⟨rfl, hw⟩; subst w3)
        | (refine wpL_load (.tmp 8) rfl rfl d i s rfl HD.out ?_)
        | (refine wpL_load (.tmp 1) rfl rfl b i s rfl HN.out ?_)
        | (refine wpL_eql (.tmp 71) (.tmp 72) 26 rfl rfl i s i s true (eqE_self _ _) rfl rfl ?_))
      go_ret
      exact ⟨rfl, HB.out⟩
end Go.Proofs.Ytpdekpdlmfnndaa
