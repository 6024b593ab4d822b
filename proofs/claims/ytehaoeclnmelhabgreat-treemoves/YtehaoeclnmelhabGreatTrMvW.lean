/-
  TreeMoves: its walk.
-/
import Derived.Test.YtehaoeclnmelhabGreatLayMv
namespace Go.Proofs.YtehaoeclnmelhabGreat
open Go Go.Proofs Go.RowKit Go.Shelf Go.Sort

set_option maxRecDepth 100000 in
set_option maxHeartbeats 4000000 in
theorem moves_any (w : World) (twice : Bool) (ga : Option Addr) (gn gc : Nat) (xs : List Int) (hG : LAt w ga gn xs) (hgn : gn ≤ 9223372036854775807) : Calls Tryz.prog 4 #[.slice ga gn gc, .bool twice] w fun e w' => e = .returned (.bool true) ∧ Below w.heap.size w w' := by
  have HA := Hid.mk (alive_any w)
  have HG := Hid.mk hG
  clear hG
  by_cases h0 : 8 < gn
  · have h0' : (8 : Int) < gn := by omega
    go_enter Tryz.func4, Tryz.ntmps4
    go_wp2_with (go_at_call 9; refine HA.out.mono ?_; rintro e W0 ⟨rfl, hw⟩; have HB := Hid.mk hw; clear hw)
    go_ret
    exact ⟨rfl, HB.out⟩
  · have h0' : ¬ (8 : Int) < gn := by omega
    have HGN : Hid (gn ≤ 8) := Hid.mk (by omega)
    go_enter Tryz.func4, Tryz.ntmps4
    go_upto_region 5 with (first
      | (go_at_call 9; refine HA.out.mono ?_; rintro e W0 ⟨rfl, hw⟩; have HB := Hid.mk hw; clear hw)
      | (go_at_call 11; refine (lG_any _ _).mono ?_; rintro e W1 ⟨rfl, hB1⟩; have B1 := Hid.mk (HB.out.trans (hB1.mono HB.out.size)); clear hB1)
      | (go_at_call 10; refine (new_any _ 1 1 60).mono ?_; rintro e W2 ⟨rfl, hT2, hB2⟩; have O0 : Hid (OwnT w W2 (W1.heap.size + 4) (newT 1 1 60) (fun _ => False)) := Hid.mk ⟨B1.out.trans (hB2.mono B1.out.size), _, hT2, fun k hk => ⟨by simp [feet, Lay.foot] at hk; have := B1.out.size; omega, fun h => h⟩⟩; unfold ptrV; clear hT2 hB2))
    generalize W1.heap.size + 4 = t at *
    clear HB B1
    go_upto_region 6 with (first
      | (go_at_call 13; refine (lC_any _ _ _).mono ?_; rintro e W5 ⟨rfl, hB5⟩; have O9 := Hid.mk (O0.out.then hB5); unfold callV; clear hB5)
      | (go_at_call 12; refine (mv_first w _ t _ _ mv1 (new_ok _ _ _) (by decide) mv1_is O9.out).mono ?_; rintro e W6 ⟨rfl, hO, -, -⟩; have O1 := Hid.mk hO; unfold errV; clear hO))
    clear O9 O0
    go_upto_region 7 with (first
      | (go_at_call 13; refine (lC_any _ _ _).mono ?_; rintro e W5 ⟨rfl, hB5⟩; have O9 := Hid.mk (O1.out.then hB5); unfold callV; clear hB5)
      | (go_at_call 12; refine (mv_first w _ t _ _ mv2 mv1_ok (by decide) mv2_is O9.out).mono ?_; rintro e W6 ⟨rfl, hO, -, -⟩; have O2 := Hid.mk hO; unfold errV; clear hO))
    clear O9 O1
    go_upto_region 8 with (first
      | (go_at_call 13; refine (lC_any _ _ _).mono ?_; rintro e W5 ⟨rfl, hB5⟩; have O9 := Hid.mk (O2.out.then hB5); unfold callV; clear hB5)
      | (go_at_call 12; refine (mv_first w _ t _ _ (mvA []) mv2_ok (by decide) mv3_all O9.out).mono ?_; rintro e W6 ⟨rfl, hO, -, -⟩; have O3 := Hid.mk hO; unfold errV; clear hO))
    clear O9 O2
    go_wp2_with fail
    go_loopw [7, 8] (fun c i wr => ∃ (k : Nat) (us : List (List UInt8)), k ≤ gn ∧ c = .int .i64 us.length ∧ i = .int .i64 k ∧ us.length ≤ k ∧ OwnT w wr t (mvA us) (fun _ => False)) (fun _ i _ => gn - (intOf i).toNat)
    case atStart => exact ⟨0, [], by omega, rfl, rfl, by simp, O3.out⟩
    case round =>
      obtain ⟨k, us, hk, rfl, rfl, hl, hO⟩ := hrel
      have OK := Hid.mk hO
      have HL := Hid.mk hl
      clear hO O3 hl
      by_cases hlt : k < gn
      · have hi : (k : Int) < gn := by omega
        have HLT := Hid.mk hlt
        obtain ⟨a, ea, ca⟩ := (HG.out.blw OK.out.below).at k hlt
        have HCX0 : Hid (∀ W, Below w.heap.size w W → W.cell? (a.add k) = some (.int .i64 (xs.getD k 0))) := Hid.mk (fun W hB => by
          obtain ⟨a', ea', ca'⟩ := (HG.out.blw hB).at k hlt
          rw [ea] at ea'
          cases ea'
          exact ca')
        subst ea
        obtain ⟨x, hxx⟩ : ∃ x, xs.getD k 0 = x := ⟨_, rfl⟩
        rw [hxx] at ca HCX0
        have HCX := HCX0
        obtain ⟨q, hq8, hq⟩ := mv_and x
        have HQ : Hid (q < 8 ∧ bits .and .i64 x 7 = (q : Int)) := Hid.mk ⟨hq8, hq⟩
        have HL8 : Hid (us.length < 8) := Hid.mk (by have := HL.out; have := HGN.out; omega)
        have hcase : (mvZ us (mvP q) = 0 ∧ mvU us (mvP q) = us ++ [mvP q]) ∨ (mvZ us (mvP q) = 11 ∧ mvU us (mvP q) = us) := by
          unfold mvZ mvU
          by_cases hp : mvP q ∈ us
          · exact .inr ⟨if_pos hp, if_pos hp⟩
          · exact .inl ⟨if_neg hp, if_neg hp⟩
        have hw1 : IntKind.i64.wrap ((k : Int) + 1) = (k : Int) + 1 := by rw [IntKind.wrap_i64]; have := HGN.out; omega
        have hw2 : IntKind.i64.wrap ((us.length : Int) + 1) = ((us ++ [mvP q]).length : Int) := by rw [IntKind.wrap_i64]; simp; have := HL8.out; omega
        have OD : Hid (OwnT w wr.drew t (mvA us) (fun _ => False)) := Hid.mk (OK.out.then (Below.refl _ wr).drew)
        have hcd : wr.drew.cell? (a.add k) = some (.int .i64 x) := HCX.out _ OD.out.below
        clear hlt hk HCX0 hxx hq8 hq OK
        go_upto_region 12 with fail
        refine wp_region_held_drew (S := fun W => W.cell? (a.add k) = some (.int .i64 x)) (by kernel_rfl) hcd (fun hH => ?_)
        change wpAnyH Tryz.prog Region.Mode.any _ _ _ 18 _ _ _
        refine takeH 0 41 (.pointer (some ⟨t, 0, none⟩)) rfl (by kernel_rfl) (by kernel_rfl) (by kernel_rfl) (by kernel_rfl) (fun _ _ _ h => h) (by kernel_rfl) (fun w hw => by kernel_rfl) hH ?_
        simp only [List.setIfInBounds_toArray, List.set_cons_zero, List.set_cons_succ]
        refine takeH 1 42 (.slice (some a) gn gc) rfl (by kernel_rfl) (by kernel_rfl) (by kernel_rfl) (by kernel_rfl) (fun _ _ _ h => h) (by kernel_rfl) (fun w hw => by kernel_rfl) hH ?_
        simp only [List.setIfInBounds_toArray, List.set_cons_zero, List.set_cons_succ]
        refine takeH 2 43 (.int .i64 k) rfl (by kernel_rfl) (by kernel_rfl) (by kernel_rfl) (by kernel_rfl) (fun _ _ _ h => h) (by kernel_rfl) (fun w hw => by kernel_rfl) hH ?_
        simp only [List.setIfInBounds_toArray, List.set_cons_zero, List.set_cons_succ]
        refine takeH 3 44 (.pointer (some (a.add k))) rfl (by kernel_rfl) (by kernel_rfl) (by kernel_rfl) (by kernel_rfl) (fun _ _ _ h => h) (by kernel_rfl) (fun w hw => by (try dsimp only at hw); go_simp) hH ?_
        simp only [List.setIfInBounds_toArray, List.set_cons_zero, List.set_cons_succ]
        refine takeH 4 45 (.int .i64 x) rfl (by kernel_rfl) (by kernel_rfl) (by kernel_rfl) (by kernel_rfl) (fun _ _ _ h => h) (by kernel_rfl) (fun w hw => by (try dsimp only at hw); go_simp) hH ?_
        simp only [List.setIfInBounds_toArray, List.set_cons_zero, List.set_cons_succ]
        refine takeH 5 46 (.int .i64 (q : Int)) rfl (by kernel_rfl) (by kernel_rfl) (by kernel_rfl) (by kernel_rfl) (fun _ _ _ h => h) (by kernel_rfl) (fun w hw => by exact exec_and7 (x := .tmp 45) (y := .const (.int .i64 7)) x q HQ.out.2 rfl (by kernel_rfl) (by kernel_rfl)) hH ?_
        simp only [List.setIfInBounds_toArray, List.set_cons_zero, List.set_cons_succ]
        refine takeH 6 47 (.slice (some a) gn gc) rfl (by kernel_rfl) (by kernel_rfl) (by kernel_rfl) (by kernel_rfl) (fun _ _ _ h => h) (by kernel_rfl) (fun w hw => by kernel_rfl) hH ?_
        simp only [List.setIfInBounds_toArray, List.set_cons_zero, List.set_cons_succ]
        refine takeH 7 48 (.int .i64 k) rfl (by kernel_rfl) (by kernel_rfl) (by kernel_rfl) (by kernel_rfl) (fun _ _ _ h => h) (by kernel_rfl) (fun w hw => by kernel_rfl) hH ?_
        simp only [List.setIfInBounds_toArray, List.set_cons_zero, List.set_cons_succ]
        refine takeH 8 49 (.pointer (some (a.add k))) rfl (by kernel_rfl) (by kernel_rfl) (by kernel_rfl) (by kernel_rfl) (fun _ _ _ h => h) (by kernel_rfl) (fun w hw => by (try dsimp only at hw); go_simp) hH ?_
        simp only [List.setIfInBounds_toArray, List.set_cons_zero, List.set_cons_succ]
        refine takeH 9 50 (.int .i64 x) rfl (by kernel_rfl) (by kernel_rfl) (by kernel_rfl) (by kernel_rfl) (fun _ _ _ h => h) (by kernel_rfl) (fun w hw => by (try dsimp only at hw); go_simp) hH ?_
        simp only [List.setIfInBounds_toArray, List.set_cons_zero, List.set_cons_succ]
        refine takeH 10 51 (.int .i64 (q : Int)) rfl (by kernel_rfl) (by kernel_rfl) (by kernel_rfl) (by kernel_rfl) (fun _ _ _ h => h) (by kernel_rfl) (fun w hw => by exact exec_and7 (x := .tmp 50) (y := .const (.int .i64 7)) x q HQ.out.2 rfl (by kernel_rfl) (by kernel_rfl)) hH ?_
        simp only [List.setIfInBounds_toArray, List.set_cons_zero, List.set_cons_succ]
        refine takeH 11 52 (.int .i64 ((q : Int) + 1)) rfl (by kernel_rfl) (by kernel_rfl) (by kernel_rfl) (by kernel_rfl) (fun _ _ _ h => h) (by kernel_rfl) (fun w hw => by exact exec_inc8 (x := .tmp 51) (y := .const (.int .i64 1)) q HQ.out.1 rfl (by kernel_rfl) (by kernel_rfl)) hH ?_
        simp only [List.setIfInBounds_toArray, List.set_cons_zero, List.set_cons_succ]
        refine takeH 12 53 (.string (mvLet q)) rfl (by kernel_rfl) (by kernel_rfl) (by kernel_rfl) (by kernel_rfl) (fun _ _ _ h => h) (by kernel_rfl) (fun w hw => by exact exec_let (x := .tmp 46) (y := .tmp 52) q HQ.out.1 rfl (by kernel_rfl) (by kernel_rfl) (by kernel_rfl)) hH ?_
        simp only [List.setIfInBounds_toArray, List.set_cons_zero, List.set_cons_succ]
        refine takeH 13 54 (.string (mvPath q)) rfl (by kernel_rfl) (by kernel_rfl) (by kernel_rfl) (by kernel_rfl) (fun _ _ _ h => h) (by kernel_rfl) (fun w hw => by exact exec_path (x := .const (.string ⟨#[47, 97, 47, 100, 47]⟩)) (y := .tmp 53) q HQ.out.1 rfl (by kernel_rfl) (by kernel_rfl)) hH ?_
        simp only [List.setIfInBounds_toArray, List.set_cons_zero, List.set_cons_succ]
        refine stepH_two 14 16 (by kernel_rfl) ?_ ?_
        · refine opH_call 14 55 rfl (by kernel_rfl) (by kernel_rfl) 13 #[.const (.int .i64 1), .tmp 54] #[3, 9] (by kernel_rfl) (enters_of Tryz.func13 (by kernel_rfl) rfl) #[.int .i64 1, .string (mvPath q)] (by kernel_rfl) (lC_any _ _ _) ?_
          rintro e w1 ⟨rfl, hb1⟩
          have O1 := Hid.mk (OD.out.then hb1)
          refine ⟨_, rfl, HCX.out _ O1.out.below, ?_⟩
          simp only [List.setIfInBounds_toArray, List.set_cons_zero, List.set_cons_succ]
          refine stepH_two 15 16 (by kernel_rfl) ?_ ?_
          · refine opH_call 15 56 rfl (by kernel_rfl) (by kernel_rfl) 12 #[.tmp 41, .tmp 55] #[23, 35] (by kernel_rfl) (enters_of Tryz.func12 (by kernel_rfl) rfl) #[ptrV t, callV 1 (mvPath q) ⟨#[]⟩ 0 0 (.slice none 0 0)] (by kernel_rfl) (mv_do w w1 t us q (fun _ => False) HL8.out HQ.out.1 O1.out (fun _ h => h.elim)) ?_
            rintro e w2 ⟨rfl, ho2, -, -⟩
            have O2 := Hid.mk ho2
            refine ⟨_, rfl, HCX.out _ O2.out.below, ?_⟩
            simp only [List.setIfInBounds_toArray, List.set_cons_zero, List.set_cons_succ]
            have hO3 := (O2.out.box rsZ).less (B' := fun k => k = w2.heap.size) (fun k h => .inr h)
            have HBX : Hid ((w2.alloc rsZ).heap[w2.heap.size]? = some rsZ) := Hid.mk (blk_new w2 rsZ)
            have HBW : Hid (w.heap.size ≤ w2.heap.size) := Hid.mk O2.out.below.size
            have HO9 := Hid.mk hO3
            refine stepH_run 16 9 (.pointer (some ⟨w2.heap.size, 0, none⟩)) (w2.alloc rsZ) rfl (by kernel_rfl) (by kernel_rfl) (by kernel_rfl) (exec_allocR (by kernel_rfl)) (HCX.out _ hO3.below) ?_
            simp only [List.setIfInBounds_toArray, List.set_cons_zero, List.set_cons_succ]
            generalize w2.heap.size = bb at *
            generalize w2.alloc rsZ = w3 at *
            clear hO3 ho2 O2 O1 OD hb1
            obtain ⟨W9, hst, hb9, ho9⟩ := exec_storeR HBX.out (mvZ us (mvP q))
            have HO10 := Hid.mk (HO9.out.only rfl HBW.out ho9)
            refine stepH_one 17 (by kernel_rfl) ?_
            refine opH_store 17 W9 rfl (by kernel_rfl) (by kernel_rfl) (hst _ _ (.tmp 9) (.tmp 56) (by kernel_rfl) (by kernel_rfl) (by kernel_rfl)) (HCX.out _ HO10.out.below) ?_
            refine wpAnyH_done (by kernel_rfl) ?_ _
            unfold rsO at hb9
            have c9 := blk_cell hb9 0
            simp at c9
            have P9 := Hid.mk (HO10.out.less (B' := fun _ => False) (fun _ h => h.elim))
            clear hst hb9 ho9 HO9 HO10 HBX HBW hH
            rcases hcase with ⟨hz, hu⟩ | ⟨hz, hu⟩
            · rw [hz] at c9
              rw [hu] at P9
              clear hz hu
              go_wp2_with (go_at_call 14; refine (lnum_any _ _).mono ?_; rintro e W9 ⟨rfl, hw⟩; subst hw)
              go_roundw
              case rel => exact ⟨k + 1, us ++ [mvP q], by have := HLT.out; omega, by rw [List.length_append]; simp; first | done | (rw [IntKind.wrap_i64]; have := HL.out; omega), by go_num, by have := HL.out; simp; omega, P9.out⟩
              case measure => have := HLT.out; simp [intOf]; omega
            · rw [hz] at c9
              rw [hu] at P9
              clear hz hu
              go_wp2_with (go_at_call 14; refine (lnum_any _ _).mono ?_; rintro e W9 ⟨rfl, hw⟩; subst hw)
              go_roundw
              case rel => exact ⟨k + 1, us, by have := HLT.out; omega, rfl, by go_num, by have := HL.out; omega, P9.out⟩
              case measure => have := HLT.out; simp [intOf]; omega
          · have hO2 := (O1.out.box rsZ).less (B' := fun k => k = w1.heap.size) (fun k h => .inr h)
            have hbx : (w1.alloc rsZ).heap[w1.heap.size]? = some rsZ := blk_new w1 rsZ
            have HBW : Hid (w.heap.size ≤ w1.heap.size) := Hid.mk O1.out.below.size
            refine opH_run 16 9 (.pointer (some ⟨w1.heap.size, 0, none⟩)) (w1.alloc rsZ) rfl (by kernel_rfl) (by kernel_rfl) (exec_allocR (by kernel_rfl)) (HCX.out _ hO2.below) ?_
            simp only [List.setIfInBounds_toArray, List.set_cons_zero, List.set_cons_succ]
            generalize w1.heap.size = bb at *
            generalize w1.alloc rsZ = w2 at *
            refine stepH_call 15 56 rfl (by kernel_rfl) (by kernel_rfl) (by kernel_rfl) 12 #[.tmp 41, .tmp 55] #[23, 35] (by kernel_rfl) (enters_of Tryz.func12 (by kernel_rfl) rfl) #[ptrV t, callV 1 (mvPath q) ⟨#[]⟩ 0 0 (.slice none 0 0)] (by kernel_rfl) (mv_do w w2 t us q (fun k => k = bb) HL8.out HQ.out.1 hO2 (fun k h => by rw [h]; exact lt_of_block hbx)) ?_
            rintro e w3 ⟨rfl, ho3, hk3, -⟩
            have HBX := Hid.mk ((hk3 _ rfl).trans hbx)
            have HO9 := Hid.mk ho3
            refine ⟨_, rfl, HCX.out _ ho3.below, ?_⟩
            simp only [List.setIfInBounds_toArray, List.set_cons_zero, List.set_cons_succ]
            clear hO2 hbx ho3 hk3 O1 OD hb1
            obtain ⟨W9, hst, hb9, ho9⟩ := exec_storeR HBX.out (mvZ us (mvP q))
            have HO10 := Hid.mk (HO9.out.only rfl HBW.out ho9)
            refine stepH_one 17 (by kernel_rfl) ?_
            refine opH_store 17 W9 rfl (by kernel_rfl) (by kernel_rfl) (hst _ _ (.tmp 9) (.tmp 56) (by kernel_rfl) (by kernel_rfl) (by kernel_rfl)) (HCX.out _ HO10.out.below) ?_
            refine wpAnyH_done (by kernel_rfl) ?_ _
            unfold rsO at hb9
            have c9 := blk_cell hb9 0
            simp at c9
            have P9 := Hid.mk (HO10.out.less (B' := fun _ => False) (fun _ h => h.elim))
            clear hst hb9 ho9 HO9 HO10 HBX HBW hH
            rcases hcase with ⟨hz, hu⟩ | ⟨hz, hu⟩
            · rw [hz] at c9
              rw [hu] at P9
              clear hz hu
              go_wp2_with (go_at_call 14; refine (lnum_any _ _).mono ?_; rintro e W9 ⟨rfl, hw⟩; subst hw)
              go_roundw
              case rel => exact ⟨k + 1, us ++ [mvP q], by have := HLT.out; omega, by rw [List.length_append]; simp; first | done | (rw [IntKind.wrap_i64]; have := HL.out; omega), by go_num, by have := HL.out; simp; omega, P9.out⟩
              case measure => have := HLT.out; simp [intOf]; omega
            · rw [hz] at c9
              rw [hu] at P9
              clear hz hu
              go_wp2_with (go_at_call 14; refine (lnum_any _ _).mono ?_; rintro e W9 ⟨rfl, hw⟩; subst hw)
              go_roundw
              case rel => exact ⟨k + 1, us, by have := HLT.out; omega, rfl, by go_num, by have := HL.out; omega, P9.out⟩
              case measure => have := HLT.out; simp [intOf]; omega
        · have hO1 := (OD.out.box rsZ).less (B' := fun k => k = wr.drew.heap.size) (fun k h => .inr h)
          have hbx : (wr.drew.alloc rsZ).heap[wr.drew.heap.size]? = some rsZ := blk_new wr.drew rsZ
          have HBW : Hid (w.heap.size ≤ wr.drew.heap.size) := Hid.mk OD.out.below.size
          refine opH_run 16 9 (.pointer (some ⟨wr.drew.heap.size, 0, none⟩)) (wr.drew.alloc rsZ) rfl (by kernel_rfl) (by kernel_rfl) (exec_allocR (by kernel_rfl)) (HCX.out _ hO1.below) ?_
          simp only [List.setIfInBounds_toArray, List.set_cons_zero, List.set_cons_succ]
          generalize wr.drew.heap.size = bb at *
          generalize wr.drew.alloc rsZ = w1 at *
          refine stepH_call 14 55 rfl (by kernel_rfl) (by kernel_rfl) (by kernel_rfl) 13 #[.const (.int .i64 1), .tmp 54] #[3, 9] (by kernel_rfl) (enters_of Tryz.func13 (by kernel_rfl) rfl) #[.int .i64 1, .string (mvPath q)] (by kernel_rfl) (lC_any _ _ _) ?_
          rintro e w2 ⟨rfl, hb2⟩
          have hO2 := hO1.then hb2
          have hbx2 := (hb2.block _ (lt_of_block hbx)).trans hbx
          refine ⟨_, rfl, HCX.out _ hO2.below, ?_⟩
          simp only [List.setIfInBounds_toArray, List.set_cons_zero, List.set_cons_succ]
          refine stepH_call 15 56 rfl (by kernel_rfl) (by kernel_rfl) (by kernel_rfl) 12 #[.tmp 41, .tmp 55] #[23, 35] (by kernel_rfl) (enters_of Tryz.func12 (by kernel_rfl) rfl) #[ptrV t, callV 1 (mvPath q) ⟨#[]⟩ 0 0 (.slice none 0 0)] (by kernel_rfl) (mv_do w w2 t us q (fun k => k = bb) HL8.out HQ.out.1 hO2 (fun k h => by rw [h]; exact lt_of_block hbx2)) ?_
          rintro e w3 ⟨rfl, ho3, hk3, -⟩
          have HBX := Hid.mk ((hk3 _ rfl).trans hbx2)
          have HO9 := Hid.mk ho3
          refine ⟨_, rfl, HCX.out _ ho3.below, ?_⟩
          simp only [List.setIfInBounds_toArray, List.set_cons_zero, List.set_cons_succ]
          clear hO1 hO2 hbx hbx2 ho3 hk3 OD hb2
          obtain ⟨W9, hst, hb9, ho9⟩ := exec_storeR HBX.out (mvZ us (mvP q))
          have HO10 := Hid.mk (HO9.out.only rfl HBW.out ho9)
          refine stepH_one 17 (by kernel_rfl) ?_
          refine opH_store 17 W9 rfl (by kernel_rfl) (by kernel_rfl) (hst _ _ (.tmp 9) (.tmp 56) (by kernel_rfl) (by kernel_rfl) (by kernel_rfl)) (HCX.out _ HO10.out.below) ?_
          refine wpAnyH_done (by kernel_rfl) ?_ _
          unfold rsO at hb9
          have c9 := blk_cell hb9 0
          simp at c9
          have P9 := Hid.mk (HO10.out.less (B' := fun _ => False) (fun _ h => h.elim))
          clear hst hb9 ho9 HO9 HO10 HBX HBW hH
          rcases hcase with ⟨hz, hu⟩ | ⟨hz, hu⟩
          · rw [hz] at c9
            rw [hu] at P9
            clear hz hu
            go_wp2_with (go_at_call 14; refine (lnum_any _ _).mono ?_; rintro e W9 ⟨rfl, hw⟩; subst hw)
            go_roundw
            case rel => exact ⟨k + 1, us ++ [mvP q], by have := HLT.out; omega, by rw [List.length_append]; simp; first | done | (rw [IntKind.wrap_i64]; have := HL.out; omega), by go_num, by have := HL.out; simp; omega, P9.out⟩
            case measure => have := HLT.out; simp [intOf]; omega
          · rw [hz] at c9
            rw [hu] at P9
            clear hz hu
            go_wp2_with (go_at_call 14; refine (lnum_any _ _).mono ?_; rintro e W9 ⟨rfl, hw⟩; subst hw)
            go_roundw
            case rel => exact ⟨k + 1, us, by have := HLT.out; omega, rfl, by go_num, by have := HL.out; omega, P9.out⟩
            case measure => have := HLT.out; simp [intOf]; omega
      · obtain rfl : k = gn := by omega
        have hi : ¬ ((k : Int) < k) := by omega
        have HU : Hid (us.length ≤ 8) := Hid.mk (by have := HL.out; have := HGN.out; omega)
        have P9 := OK
        clear hlt hk OK
        go_upto_region 16 with (first
          | (go_at_call 17; refine (lTo_any _ _ _ _).mono ?_; rintro e W5 ⟨rfl, hB5⟩; have O1 := Hid.mk (P9.out.then hB5); unfold callV; clear hB5)
          | (go_at_call 12; refine (mv_to w _ t us _ HU.out O1.out (fun k h => h.elim)).mono ?_; rintro e W6 ⟨rfl, hO, hk, -⟩; have O2 := Hid.mk hO; unfold errV; clear hO hk))
        obtain ⟨Y10, hY⟩ : ∃ Y, Y = W6.alloc (.cells #[.int .i64 0, .slice none 0 0, .int .i64 0, .int .i64 0, .int .i64 0, .slice none 0 0, .int .i64 0] 32) := ⟨_, rfl⟩
        have P10 : Hid (OwnT w Y10 t (mvB us) (fun k => k = W6.heap.size)) := Hid.mk (by rw [hY]; exact (O2.out.box _).less (fun k h => .inr h))
        have Xb10 : Hid (Y10.heap[W6.heap.size]? = some (.cells #[.int .i64 0, .slice none 0 0, .int .i64 0, .int .i64 0, .int .i64 0, .slice none 0 0, .int .i64 0] 32 (0, 0))) := Hid.mk (by rw [hY]; exact blk_new W6 _)
        rw [← hY]
        generalize W6.heap.size = b10 at *
        clear hY O1 O2 P9 
        have hlen : Hid True := Hid.mk trivial
        cases twice with
        | false =>
          go_upto_region 20 with (first
            | (go_at_call 13; refine (lC_any _ _ _).mono ?_; rintro e W5 ⟨rfl, hB5⟩; have O1 := Hid.mk (P10.out.then hB5); have Ub10 := Hid.mk ((hB5.block _ (lt_of_block Xb10.out)).trans Xb10.out); unfold callV; clear hB5)
            | (go_at_call 12; refine (mv_stat w _ t us _ ⟨#[47, 97]⟩ (by decide) 0 2 1024 2 (mv_statB1 us) O1.out (fun k h => (by rw [h]; exact lt_of_block Ub10.out))).mono ?_; rintro e W6 ⟨rfl, hO, hk, -⟩; have O2 := Hid.mk hO; have Tb10 := Hid.mk ((hk _ rfl).trans Ub10.out); clear hO hk))
          obtain ⟨Y11, hY⟩ : ∃ Y, Y = W6.alloc (.cells #[.int .i64 0, .slice none 0 0, .int .i64 2, .int .i64 1024, .int .i64 2, .slice none 0 0, .int .i64 0] 32) := ⟨_, rfl⟩
          have P11 : Hid (OwnT w Y11 t (mvB us) (fun k => k = b10 ∨ k = W6.heap.size)) := Hid.mk (by rw [hY]; exact O2.out.box _)
          have Xb10 : Hid (Y11.heap[b10]? = some (.cells #[.int .i64 0, .slice none 0 0, .int .i64 0, .int .i64 0, .int .i64 0, .slice none 0 0, .int .i64 0] 32 (0, 0))) := Hid.mk (by rw [hY, Below.heap_alloc _ _ _ (lt_of_block Tb10.out)]; exact Tb10.out)
          have Xb11 : Hid (Y11.heap[W6.heap.size]? = some (.cells #[.int .i64 0, .slice none 0 0, .int .i64 2, .int .i64 1024, .int .i64 2, .slice none 0 0, .int .i64 0] 32 (0, 0))) := Hid.mk (by rw [hY]; exact blk_new W6 _)
          rw [← hY]
          generalize W6.heap.size = b11 at *
          clear hY O1 O2 P10 Ub10 Tb10
          go_upto_region 21 with (first
            | (go_at_call 13; refine (lC_any _ _ _).mono ?_; rintro e W5 ⟨rfl, hB5⟩; have O1 := Hid.mk (P11.out.then hB5); have Ub10 := Hid.mk ((hB5.block _ (lt_of_block Xb10.out)).trans Xb10.out); have Ub11 := Hid.mk ((hB5.block _ (lt_of_block Xb11.out)).trans Xb11.out); unfold callV; clear hB5)
            | (go_at_call 12; refine (mv_stat w _ t us _ ⟨#[47, 98]⟩ (by decide) 0 2 1024 3 (mv_statB2 us) O1.out (fun k h => h.elim (fun h => (by rw [h]; exact lt_of_block Ub10.out)) (fun h => by rw [h]; exact lt_of_block Ub11.out))).mono ?_; rintro e W6 ⟨rfl, hO, hk, -⟩; have O2 := Hid.mk hO; have Tb10 := Hid.mk ((hk _ (.inl rfl)).trans Ub10.out); have Tb11 := Hid.mk ((hk _ (.inr rfl)).trans Ub11.out); clear hO hk))
          obtain ⟨Y12, hY⟩ : ∃ Y, Y = W6.alloc (.cells #[.int .i64 0, .slice none 0 0, .int .i64 2, .int .i64 1024, .int .i64 3, .slice none 0 0, .int .i64 0] 32) := ⟨_, rfl⟩
          have P12 : Hid (OwnT w Y12 t (mvB us) (fun k => (k = b10 ∨ k = b11) ∨ k = W6.heap.size)) := Hid.mk (by rw [hY]; exact O2.out.box _)
          have Xb10 : Hid (Y12.heap[b10]? = some (.cells #[.int .i64 0, .slice none 0 0, .int .i64 0, .int .i64 0, .int .i64 0, .slice none 0 0, .int .i64 0] 32 (0, 0))) := Hid.mk (by rw [hY, Below.heap_alloc _ _ _ (lt_of_block Tb10.out)]; exact Tb10.out)
          have Xb11 : Hid (Y12.heap[b11]? = some (.cells #[.int .i64 0, .slice none 0 0, .int .i64 2, .int .i64 1024, .int .i64 2, .slice none 0 0, .int .i64 0] 32 (0, 0))) := Hid.mk (by rw [hY, Below.heap_alloc _ _ _ (lt_of_block Tb11.out)]; exact Tb11.out)
          have Xb12 : Hid (Y12.heap[W6.heap.size]? = some (.cells #[.int .i64 0, .slice none 0 0, .int .i64 2, .int .i64 1024, .int .i64 3, .slice none 0 0, .int .i64 0] 32 (0, 0))) := Hid.mk (by rw [hY]; exact blk_new W6 _)
          rw [← hY]
          generalize W6.heap.size = b12 at *
          clear hY O1 O2 P11 Ub10 Tb10 Ub11 Tb11
          go_upto_region 22 with (first
            | (go_at_call 13; refine (lC_any _ _ _).mono ?_; rintro e W5 ⟨rfl, hB5⟩; have O1 := Hid.mk (P12.out.then hB5); have Ub10 := Hid.mk ((hB5.block _ (lt_of_block Xb10.out)).trans Xb10.out); have Ub11 := Hid.mk ((hB5.block _ (lt_of_block Xb11.out)).trans Xb11.out); have Ub12 := Hid.mk ((hB5.block _ (lt_of_block Xb12.out)).trans Xb12.out); unfold callV; clear hB5)
            | (go_at_call 12; refine (mv_ls w _ t us _ HU.out O1.out (fun k h => h.elim (fun h => h.elim (fun h => (by rw [h]; exact lt_of_block Ub10.out)) (fun h => by rw [h]; exact lt_of_block Ub11.out)) (fun h => by rw [h]; exact lt_of_block Ub12.out))).mono ?_; rintro e W6 ⟨ao, c, rfl, hO, hk, -⟩; have O2 := Hid.mk hO; have Tb10 := Hid.mk ((hk _ (.inl (.inl rfl))).trans Ub10.out); have Tb11 := Hid.mk ((hk _ (.inl (.inr rfl))).trans Ub11.out); have Tb12 := Hid.mk ((hk _ (.inr rfl)).trans Ub12.out); clear hO hk))
          obtain ⟨Y13, hY⟩ : ∃ Y, Y = W6.alloc (.cells #[.int .i64 0, .slice none 0 0, .int .i64 0, .int .i64 0, .int .i64 0, .slice ao us.length c, .int .i64 0] 32) := ⟨_, rfl⟩
          have P13 : Hid (OwnT w Y13 t (mvB us) (fun k => ((k = b10 ∨ k = b11) ∨ k = b12) ∨ k = W6.heap.size)) := Hid.mk (by rw [hY]; exact O2.out.box _)
          have Xb10 : Hid (Y13.heap[b10]? = some (.cells #[.int .i64 0, .slice none 0 0, .int .i64 0, .int .i64 0, .int .i64 0, .slice none 0 0, .int .i64 0] 32 (0, 0))) := Hid.mk (by rw [hY, Below.heap_alloc _ _ _ (lt_of_block Tb10.out)]; exact Tb10.out)
          have Xb11 : Hid (Y13.heap[b11]? = some (.cells #[.int .i64 0, .slice none 0 0, .int .i64 2, .int .i64 1024, .int .i64 2, .slice none 0 0, .int .i64 0] 32 (0, 0))) := Hid.mk (by rw [hY, Below.heap_alloc _ _ _ (lt_of_block Tb11.out)]; exact Tb11.out)
          have Xb12 : Hid (Y13.heap[b12]? = some (.cells #[.int .i64 0, .slice none 0 0, .int .i64 2, .int .i64 1024, .int .i64 3, .slice none 0 0, .int .i64 0] 32 (0, 0))) := Hid.mk (by rw [hY, Below.heap_alloc _ _ _ (lt_of_block Tb12.out)]; exact Tb12.out)
          have Xb13 : Hid (Y13.heap[W6.heap.size]? = some (.cells #[.int .i64 0, .slice none 0 0, .int .i64 0, .int .i64 0, .int .i64 0, .slice ao us.length c, .int .i64 0] 32 (0, 0))) := Hid.mk (by rw [hY]; exact blk_new W6 _)
          rw [← hY]
          generalize W6.heap.size = b13 at *
          clear hY O1 O2 P12 Ub10 Tb10 Ub11 Tb11 Ub12 Tb12
          go_upto_region 23 with (first
            | (go_at_call 13; refine (lC_any _ _ _).mono ?_; rintro e W5 ⟨rfl, hB5⟩; have O1 := Hid.mk (P13.out.then hB5); have Ub10 := Hid.mk ((hB5.block _ (lt_of_block Xb10.out)).trans Xb10.out); have Ub11 := Hid.mk ((hB5.block _ (lt_of_block Xb11.out)).trans Xb11.out); have Ub12 := Hid.mk ((hB5.block _ (lt_of_block Xb12.out)).trans Xb12.out); have Ub13 := Hid.mk ((hB5.block _ (lt_of_block Xb13.out)).trans Xb13.out); unfold callV; clear hB5)
            | (go_at_call 12; refine (mv_stat w _ t us _ ⟨#[47, 97, 47, 100]⟩ (by decide) 10 0 0 0 (mv_statB3 us) O1.out (fun k h => h.elim (fun h => h.elim (fun h => h.elim (fun h => (by rw [h]; exact lt_of_block Ub10.out)) (fun h => by rw [h]; exact lt_of_block Ub11.out)) (fun h => by rw [h]; exact lt_of_block Ub12.out)) (fun h => by rw [h]; exact lt_of_block Ub13.out))).mono ?_; rintro e W6 ⟨rfl, hO, hk, -⟩; have O2 := Hid.mk hO; have Tb10 := Hid.mk ((hk _ (.inl (.inl (.inl rfl)))).trans Ub10.out); have Tb11 := Hid.mk ((hk _ (.inl (.inl (.inr rfl)))).trans Ub11.out); have Tb12 := Hid.mk ((hk _ (.inl (.inr rfl))).trans Ub12.out); have Tb13 := Hid.mk ((hk _ (.inr rfl)).trans Ub13.out); clear hO hk))
          obtain ⟨Y14, hY⟩ : ∃ Y, Y = W6.alloc (.cells #[.int .i64 10, .slice none 0 0, .int .i64 0, .int .i64 0, .int .i64 0, .slice none 0 0, .int .i64 0] 32) := ⟨_, rfl⟩
          have P14 : Hid (OwnT w Y14 t (mvB us) (fun k => (((k = b10 ∨ k = b11) ∨ k = b12) ∨ k = b13) ∨ k = W6.heap.size)) := Hid.mk (by rw [hY]; exact O2.out.box _)
          have Xb10 : Hid (Y14.heap[b10]? = some (.cells #[.int .i64 0, .slice none 0 0, .int .i64 0, .int .i64 0, .int .i64 0, .slice none 0 0, .int .i64 0] 32 (0, 0))) := Hid.mk (by rw [hY, Below.heap_alloc _ _ _ (lt_of_block Tb10.out)]; exact Tb10.out)
          have Xb11 : Hid (Y14.heap[b11]? = some (.cells #[.int .i64 0, .slice none 0 0, .int .i64 2, .int .i64 1024, .int .i64 2, .slice none 0 0, .int .i64 0] 32 (0, 0))) := Hid.mk (by rw [hY, Below.heap_alloc _ _ _ (lt_of_block Tb11.out)]; exact Tb11.out)
          have Xb12 : Hid (Y14.heap[b12]? = some (.cells #[.int .i64 0, .slice none 0 0, .int .i64 2, .int .i64 1024, .int .i64 3, .slice none 0 0, .int .i64 0] 32 (0, 0))) := Hid.mk (by rw [hY, Below.heap_alloc _ _ _ (lt_of_block Tb12.out)]; exact Tb12.out)
          have Xb13 : Hid (Y14.heap[b13]? = some (.cells #[.int .i64 0, .slice none 0 0, .int .i64 0, .int .i64 0, .int .i64 0, .slice ao us.length c, .int .i64 0] 32 (0, 0))) := Hid.mk (by rw [hY, Below.heap_alloc _ _ _ (lt_of_block Tb13.out)]; exact Tb13.out)
          have Xb14 : Hid (Y14.heap[W6.heap.size]? = some (.cells #[.int .i64 10, .slice none 0 0, .int .i64 0, .int .i64 0, .int .i64 0, .slice none 0 0, .int .i64 0] 32 (0, 0))) := Hid.mk (by rw [hY]; exact blk_new W6 _)
          rw [← hY]
          generalize W6.heap.size = b14 at *
          clear hY O1 O2 P13 Ub10 Tb10 Ub11 Tb11 Ub12 Tb12 Ub13 Tb13
          have c10 := blk_cell Xb10.out 0
          have c11 := blk_cell Xb11.out 4
          have c12 := blk_cell Xb12.out 4
          have c13 := blk_cell Xb13.out 5
          have c14 := blk_cell Xb14.out 0
          simp at c10 c11 c12 c13 c14
          have PB := Hid.mk P14.out.below
          clear Xb10 Xb11 Xb12 Xb13 Xb14 P14
          go_wp2_with (go_at_call 14; refine (lnum_any _ _).mono ?_; rintro e W9 ⟨rfl, hw⟩; subst hw)
          go_ret
          exact ⟨rfl, PB.out⟩
        | true =>
          go_upto_region 18 with (first
            | (go_at_call 17; refine (lTo_any _ _ _ _).mono ?_; rintro e W5 ⟨rfl, hB5⟩; have O1 := Hid.mk (P10.out.then hB5); have Ub10 := Hid.mk ((hB5.block _ (lt_of_block Xb10.out)).trans Xb10.out); unfold callV; clear hB5)
            | (go_at_call 12; refine (mv_fro w _ t us _ HU.out O1.out (fun k h => by rw [h]; exact lt_of_block Ub10.out)).mono ?_; rintro e W6 ⟨rfl, hO, hk, -⟩; have O2 := Hid.mk hO; have Tb10 := Hid.mk ((hk _ rfl).trans Ub10.out); unfold errV; clear hO hk))
          clear Xb10 P10
          have Xb10 := Tb10
          have P10 := O2
          clear O1 O2 Ub10 Tb10
          go_upto_region 19 with (first
            | (go_at_call 17; refine (lTo_any _ _ _ _).mono ?_; rintro e W7 ⟨rfl, hB5⟩; have O1 := Hid.mk (P10.out.then hB5); have Ub10 := Hid.mk ((hB5.block _ (lt_of_block Xb10.out)).trans Xb10.out); unfold callV; clear hB5)
            | (go_at_call 12; refine (mv_to w _ t us _ HU.out O1.out (fun k h => by rw [h]; exact lt_of_block Ub10.out)).mono ?_; rintro e W8 ⟨rfl, hO, hk, -⟩; have O2 := Hid.mk hO; have Tb10 := Hid.mk ((hk _ rfl).trans Ub10.out); unfold errV; clear hO hk))
          clear Xb10 P10
          have Xb10 := Tb10
          have P10 := O2
          clear O1 O2 Ub10 Tb10
          go_upto_region 20 with (first
            | (go_at_call 13; refine (lC_any _ _ _).mono ?_; rintro e W5 ⟨rfl, hB5⟩; have O1 := Hid.mk (P10.out.then hB5); have Ub10 := Hid.mk ((hB5.block _ (lt_of_block Xb10.out)).trans Xb10.out); unfold callV; clear hB5)
            | (go_at_call 12; refine (mv_stat w _ t us _ ⟨#[47, 97]⟩ (by decide) 0 2 1024 2 (mv_statB1 us) O1.out (fun k h => (by rw [h]; exact lt_of_block Ub10.out))).mono ?_; rintro e W6 ⟨rfl, hO, hk, -⟩; have O2 := Hid.mk hO; have Tb10 := Hid.mk ((hk _ rfl).trans Ub10.out); clear hO hk))
          obtain ⟨Y11, hY⟩ : ∃ Y, Y = W6.alloc (.cells #[.int .i64 0, .slice none 0 0, .int .i64 2, .int .i64 1024, .int .i64 2, .slice none 0 0, .int .i64 0] 32) := ⟨_, rfl⟩
          have P11 : Hid (OwnT w Y11 t (mvB us) (fun k => k = b10 ∨ k = W6.heap.size)) := Hid.mk (by rw [hY]; exact O2.out.box _)
          have Xb10 : Hid (Y11.heap[b10]? = some (.cells #[.int .i64 0, .slice none 0 0, .int .i64 0, .int .i64 0, .int .i64 0, .slice none 0 0, .int .i64 0] 32 (0, 0))) := Hid.mk (by rw [hY, Below.heap_alloc _ _ _ (lt_of_block Tb10.out)]; exact Tb10.out)
          have Xb11 : Hid (Y11.heap[W6.heap.size]? = some (.cells #[.int .i64 0, .slice none 0 0, .int .i64 2, .int .i64 1024, .int .i64 2, .slice none 0 0, .int .i64 0] 32 (0, 0))) := Hid.mk (by rw [hY]; exact blk_new W6 _)
          rw [← hY]
          generalize W6.heap.size = b11 at *
          clear hY O1 O2 P10 Ub10 Tb10
          go_upto_region 21 with (first
            | (go_at_call 13; refine (lC_any _ _ _).mono ?_; rintro e W5 ⟨rfl, hB5⟩; have O1 := Hid.mk (P11.out.then hB5); have Ub10 := Hid.mk ((hB5.block _ (lt_of_block Xb10.out)).trans Xb10.out); have Ub11 := Hid.mk ((hB5.block _ (lt_of_block Xb11.out)).trans Xb11.out); unfold callV; clear hB5)
            | (go_at_call 12; refine (mv_stat w _ t us _ ⟨#[47, 98]⟩ (by decide) 0 2 1024 3 (mv_statB2 us) O1.out (fun k h => h.elim (fun h => (by rw [h]; exact lt_of_block Ub10.out)) (fun h => by rw [h]; exact lt_of_block Ub11.out))).mono ?_; rintro e W6 ⟨rfl, hO, hk, -⟩; have O2 := Hid.mk hO; have Tb10 := Hid.mk ((hk _ (.inl rfl)).trans Ub10.out); have Tb11 := Hid.mk ((hk _ (.inr rfl)).trans Ub11.out); clear hO hk))
          obtain ⟨Y12, hY⟩ : ∃ Y, Y = W6.alloc (.cells #[.int .i64 0, .slice none 0 0, .int .i64 2, .int .i64 1024, .int .i64 3, .slice none 0 0, .int .i64 0] 32) := ⟨_, rfl⟩
          have P12 : Hid (OwnT w Y12 t (mvB us) (fun k => (k = b10 ∨ k = b11) ∨ k = W6.heap.size)) := Hid.mk (by rw [hY]; exact O2.out.box _)
          have Xb10 : Hid (Y12.heap[b10]? = some (.cells #[.int .i64 0, .slice none 0 0, .int .i64 0, .int .i64 0, .int .i64 0, .slice none 0 0, .int .i64 0] 32 (0, 0))) := Hid.mk (by rw [hY, Below.heap_alloc _ _ _ (lt_of_block Tb10.out)]; exact Tb10.out)
          have Xb11 : Hid (Y12.heap[b11]? = some (.cells #[.int .i64 0, .slice none 0 0, .int .i64 2, .int .i64 1024, .int .i64 2, .slice none 0 0, .int .i64 0] 32 (0, 0))) := Hid.mk (by rw [hY, Below.heap_alloc _ _ _ (lt_of_block Tb11.out)]; exact Tb11.out)
          have Xb12 : Hid (Y12.heap[W6.heap.size]? = some (.cells #[.int .i64 0, .slice none 0 0, .int .i64 2, .int .i64 1024, .int .i64 3, .slice none 0 0, .int .i64 0] 32 (0, 0))) := Hid.mk (by rw [hY]; exact blk_new W6 _)
          rw [← hY]
          generalize W6.heap.size = b12 at *
          clear hY O1 O2 P11 Ub10 Tb10 Ub11 Tb11
          go_upto_region 22 with (first
            | (go_at_call 13; refine (lC_any _ _ _).mono ?_; rintro e W5 ⟨rfl, hB5⟩; have O1 := Hid.mk (P12.out.then hB5); have Ub10 := Hid.mk ((hB5.block _ (lt_of_block Xb10.out)).trans Xb10.out); have Ub11 := Hid.mk ((hB5.block _ (lt_of_block Xb11.out)).trans Xb11.out); have Ub12 := Hid.mk ((hB5.block _ (lt_of_block Xb12.out)).trans Xb12.out); unfold callV; clear hB5)
            | (go_at_call 12; refine (mv_ls w _ t us _ HU.out O1.out (fun k h => h.elim (fun h => h.elim (fun h => (by rw [h]; exact lt_of_block Ub10.out)) (fun h => by rw [h]; exact lt_of_block Ub11.out)) (fun h => by rw [h]; exact lt_of_block Ub12.out))).mono ?_; rintro e W6 ⟨ao, c, rfl, hO, hk, -⟩; have O2 := Hid.mk hO; have Tb10 := Hid.mk ((hk _ (.inl (.inl rfl))).trans Ub10.out); have Tb11 := Hid.mk ((hk _ (.inl (.inr rfl))).trans Ub11.out); have Tb12 := Hid.mk ((hk _ (.inr rfl)).trans Ub12.out); clear hO hk))
          obtain ⟨Y13, hY⟩ : ∃ Y, Y = W6.alloc (.cells #[.int .i64 0, .slice none 0 0, .int .i64 0, .int .i64 0, .int .i64 0, .slice ao us.length c, .int .i64 0] 32) := ⟨_, rfl⟩
          have P13 : Hid (OwnT w Y13 t (mvB us) (fun k => ((k = b10 ∨ k = b11) ∨ k = b12) ∨ k = W6.heap.size)) := Hid.mk (by rw [hY]; exact O2.out.box _)
          have Xb10 : Hid (Y13.heap[b10]? = some (.cells #[.int .i64 0, .slice none 0 0, .int .i64 0, .int .i64 0, .int .i64 0, .slice none 0 0, .int .i64 0] 32 (0, 0))) := Hid.mk (by rw [hY, Below.heap_alloc _ _ _ (lt_of_block Tb10.out)]; exact Tb10.out)
          have Xb11 : Hid (Y13.heap[b11]? = some (.cells #[.int .i64 0, .slice none 0 0, .int .i64 2, .int .i64 1024, .int .i64 2, .slice none 0 0, .int .i64 0] 32 (0, 0))) := Hid.mk (by rw [hY, Below.heap_alloc _ _ _ (lt_of_block Tb11.out)]; exact Tb11.out)
          have Xb12 : Hid (Y13.heap[b12]? = some (.cells #[.int .i64 0, .slice none 0 0, .int .i64 2, .int .i64 1024, .int .i64 3, .slice none 0 0, .int .i64 0] 32 (0, 0))) := Hid.mk (by rw [hY, Below.heap_alloc _ _ _ (lt_of_block Tb12.out)]; exact Tb12.out)
          have Xb13 : Hid (Y13.heap[W6.heap.size]? = some (.cells #[.int .i64 0, .slice none 0 0, .int .i64 0, .int .i64 0, .int .i64 0, .slice ao us.length c, .int .i64 0] 32 (0, 0))) := Hid.mk (by rw [hY]; exact blk_new W6 _)
          rw [← hY]
          generalize W6.heap.size = b13 at *
          clear hY O1 O2 P12 Ub10 Tb10 Ub11 Tb11 Ub12 Tb12
          go_upto_region 23 with (first
            | (go_at_call 13; refine (lC_any _ _ _).mono ?_; rintro e W5 ⟨rfl, hB5⟩; have O1 := Hid.mk (P13.out.then hB5); have Ub10 := Hid.mk ((hB5.block _ (lt_of_block Xb10.out)).trans Xb10.out); have Ub11 := Hid.mk ((hB5.block _ (lt_of_block Xb11.out)).trans Xb11.out); have Ub12 := Hid.mk ((hB5.block _ (lt_of_block Xb12.out)).trans Xb12.out); have Ub13 := Hid.mk ((hB5.block _ (lt_of_block Xb13.out)).trans Xb13.out); unfold callV; clear hB5)
            | (go_at_call 12; refine (mv_stat w _ t us _ ⟨#[47, 97, 47, 100]⟩ (by decide) 10 0 0 0 (mv_statB3 us) O1.out (fun k h => h.elim (fun h => h.elim (fun h => h.elim (fun h => (by rw [h]; exact lt_of_block Ub10.out)) (fun h => by rw [h]; exact lt_of_block Ub11.out)) (fun h => by rw [h]; exact lt_of_block Ub12.out)) (fun h => by rw [h]; exact lt_of_block Ub13.out))).mono ?_; rintro e W6 ⟨rfl, hO, hk, -⟩; have O2 := Hid.mk hO; have Tb10 := Hid.mk ((hk _ (.inl (.inl (.inl rfl)))).trans Ub10.out); have Tb11 := Hid.mk ((hk _ (.inl (.inl (.inr rfl)))).trans Ub11.out); have Tb12 := Hid.mk ((hk _ (.inl (.inr rfl))).trans Ub12.out); have Tb13 := Hid.mk ((hk _ (.inr rfl)).trans Ub13.out); clear hO hk))
          obtain ⟨Y14, hY⟩ : ∃ Y, Y = W6.alloc (.cells #[.int .i64 10, .slice none 0 0, .int .i64 0, .int .i64 0, .int .i64 0, .slice none 0 0, .int .i64 0] 32) := ⟨_, rfl⟩
          have P14 : Hid (OwnT w Y14 t (mvB us) (fun k => (((k = b10 ∨ k = b11) ∨ k = b12) ∨ k = b13) ∨ k = W6.heap.size)) := Hid.mk (by rw [hY]; exact O2.out.box _)
          have Xb10 : Hid (Y14.heap[b10]? = some (.cells #[.int .i64 0, .slice none 0 0, .int .i64 0, .int .i64 0, .int .i64 0, .slice none 0 0, .int .i64 0] 32 (0, 0))) := Hid.mk (by rw [hY, Below.heap_alloc _ _ _ (lt_of_block Tb10.out)]; exact Tb10.out)
          have Xb11 : Hid (Y14.heap[b11]? = some (.cells #[.int .i64 0, .slice none 0 0, .int .i64 2, .int .i64 1024, .int .i64 2, .slice none 0 0, .int .i64 0] 32 (0, 0))) := Hid.mk (by rw [hY, Below.heap_alloc _ _ _ (lt_of_block Tb11.out)]; exact Tb11.out)
          have Xb12 : Hid (Y14.heap[b12]? = some (.cells #[.int .i64 0, .slice none 0 0, .int .i64 2, .int .i64 1024, .int .i64 3, .slice none 0 0, .int .i64 0] 32 (0, 0))) := Hid.mk (by rw [hY, Below.heap_alloc _ _ _ (lt_of_block Tb12.out)]; exact Tb12.out)
          have Xb13 : Hid (Y14.heap[b13]? = some (.cells #[.int .i64 0, .slice none 0 0, .int .i64 0, .int .i64 0, .int .i64 0, .slice ao us.length c, .int .i64 0] 32 (0, 0))) := Hid.mk (by rw [hY, Below.heap_alloc _ _ _ (lt_of_block Tb13.out)]; exact Tb13.out)
          have Xb14 : Hid (Y14.heap[W6.heap.size]? = some (.cells #[.int .i64 10, .slice none 0 0, .int .i64 0, .int .i64 0, .int .i64 0, .slice none 0 0, .int .i64 0] 32 (0, 0))) := Hid.mk (by rw [hY]; exact blk_new W6 _)
          rw [← hY]
          generalize W6.heap.size = b14 at *
          clear hY O1 O2 P13 Ub10 Tb10 Ub11 Tb11 Ub12 Tb12 Ub13 Tb13
          have c10 := blk_cell Xb10.out 0
          have c11 := blk_cell Xb11.out 4
          have c12 := blk_cell Xb12.out 4
          have c13 := blk_cell Xb13.out 5
          have c14 := blk_cell Xb14.out 0
          simp at c10 c11 c12 c13 c14
          have PB := Hid.mk P14.out.below
          clear Xb10 Xb11 Xb12 Xb13 Xb14 P14
          go_wp2_with (go_at_call 14; refine (lnum_any _ _).mono ?_; rintro e W9 ⟨rfl, hw⟩; subst hw)
          go_ret
          exact ⟨rfl, PB.out⟩
end Go.Proofs.YtehaoeclnmelhabGreat
