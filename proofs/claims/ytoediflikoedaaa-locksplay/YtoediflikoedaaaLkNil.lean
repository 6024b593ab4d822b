/-
  A table of which nothing was asked yet: Stuck of it.
-/
import Derived.Test.YtoediflikoedaaaLkO
import Derived.Laws.IdiomRangeMap
namespace Go.Proofs.Ytoediflikoedaaa
open Go Go.Proofs Go.RowKit Go.Shelf Go.Maps
attribute [local go_sem] Oper.semAt_some
set_option maxRecDepth 100000 in
set_option maxHeartbeats 2000000 in
theorem copym_nil (w : World) (bd : Nat) : Calls Try.prog 46 #[.map (some bd), .map none] w fun e w' => e = .returned (.tuple #[]) ∧ w' = w.alloc (.mapIter none 0 #[] 0) := by
  have hrg := run_range_nilMap (P := Try.prog) w 52 _ _ Try.underlying52
  have hnx : ∀ ty, (Instr.next (.pointer (some ⟨w.heap.size, 0, none⟩)) false ty).run Try.prog (w.alloc (.mapIter none 0 #[] 0)) = _ := fun ty => run_next_nilMap _ ty 0 0 #[]
  go_enter Try.func46, Try.ntmps46
  go_wp2
  refine wp_loop_rounds 1 ?_
  rw [rounds_succ]
  go_wp2
  go_end0
  exact ⟨rfl, rfl⟩
def S3n (t1 cb t : Nat) (W : World) : Prop := W.cell? ⟨t1, 2, none⟩ = some (.map (some cb)) ∧ W.cell? ⟨t, 2, none⟩ = some (.map none) ∧ True
section
variable {F : Nat → Prop} {w : World} {t : Nat}
set_option maxRecDepth 100000 in
set_option maxHeartbeats 8000000 in
theorem waited_nil (h : TbAt F w t Td.none) : Calls Try.prog 38 #[ptV t] w fun e w' => ∃ t1, e = .returned (ptV t1) ∧ Hid (WtTo w Td.none t1 w') := by
  have HNEW := Hid.mk (new_any w)
  have HSTART : Hid (Calls Try.prog 25 #[ptV w.heap.size] (w.alloc (.cells #[.map none, .map none, .map none] 54)) fun e wB => e = .returned (.tuple #[]) ∧ ∃ hb1 rb1 cb, Hid (TbAt (fun k => w.heap.size ≤ k) wB w.heap.size (Td.made hb1 rb1 cb) ∧ Below w.heap.size w wB ∧ w.heap.size < wB.heap.size)) := Hid.mk (by
    have hf : TbAt (fun k => w.heap.size ≤ k) (w.alloc (.cells #[.map none, .map none, .map none] 54)) w.heap.size Td.none := TbAt.fresh (Nat.le_refl _) (blk_new w _)
    refine (start_new hf).mono ?_
    rintro e wB ⟨rfl, a, b, c, h1, h2⟩
    refine ⟨rfl, a, b, c, Hid.mk ⟨h1.mono (fun k _ hk => hk.elim (fun q => q) (fun q => by simp at q; omega)), ((Below.refl w.heap.size w).alloc (Nat.le_refl _) _).trans (h2.below (by simp) (fun k hk => by rw [hk]; exact Nat.le_refl _)), by have := h2.size; simp at this; omega⟩⟩)
  have HCPY : Hid (∀ wB hb1 rb1 cb, Hid (TbAt (fun k => w.heap.size ≤ k) wB w.heap.size (Td.made hb1 rb1 cb) ∧ Below w.heap.size w wB ∧ w.heap.size < wB.heap.size) → S3n w.heap.size cb t wB.drew ∧ Calls Try.prog 46 #[.map (some cb), .map none] wB.drew fun e w4 => e = .returned (.tuple #[]) ∧ S3n w.heap.size cb t w4 ∧ w4.cell? ⟨t, 1, none⟩ = some (.map none) ∧ Hid (WtTo w Td.none w.heap.size (w4.alloc (.mapIter none 0 #[] 0)))) := Hid.mk (fun wB hb1 rb1 cb HQ => by
    obtain ⟨a1, a2, a3⟩ := HQ.out
    have a1d := a1.below (drew_below wB)
    have a2d : Below w.heap.size w wB.drew := a2.trans ((drew_below _).mono (by omega))
    have s3 : ∀ W, TbAt (fun k => w.heap.size ≤ k) W w.heap.size (Td.made hb1 rb1 cb) → TbAt F W t Td.none → S3n w.heap.size cb t W := fun W p r => ⟨p.cells.2.2, r.cells.2.2, trivial⟩
    refine ⟨s3 _ a1d (h.below a2d), (copym_nil wB.drew cb).mono ?_⟩
    rintro e w4 ⟨rfl, rfl⟩
    have hB4 : Below wB.drew.heap.size wB.drew (wB.drew.alloc (.mapIter none 0 #[] 0)) := (Below.refl _ _).alloc (Nat.le_refl _) _
    have hB4w : Below w.heap.size w (wB.drew.alloc (.mapIter none 0 #[] 0)) := a2d.trans (hB4.mono a2d.size)
    have hf4 := h.below hB4w
    refine ⟨rfl, s3 _ (a1d.below hB4) hf4, hf4.cells.2.1, Hid.mk ?_⟩
    have hB5 : Below (wB.drew.alloc (.mapIter none 0 #[] 0)).heap.size (wB.drew.alloc (.mapIter none 0 #[] 0)) ((wB.drew.alloc (.mapIter none 0 #[] 0)).alloc (.mapIter none 0 #[] 0)) := (Below.refl _ _).alloc (Nat.le_refl _) _
    exact ⟨Td.made hb1 rb1 cb, (a1d.below hB4).below hB5, ⟨_, _, _, rfl, rfl, rfl⟩, rfl, fun _ _ => rfl, fun _ _ => rfl, Nat.le_refl _, Nat.le_refl _, Nat.le_refl _, fun _ _ q => (by cases q), fun _ _ q => (by cases q), hB4w.trans (hB5.mono hB4w.size)⟩)
  clear h
  go_enter Try.func38, Try.ntmps38
  go_wp2_with (first
    | (go_at_call 10; refine HNEW.out.mono ?_; rintro e wA ⟨rfl, hwA⟩; subst hwA; clear HNEW)
    | (go_at_call 25; refine HSTART.out.mono ?_; rintro e wB ⟨rfl, hb1, rb1, cb, HB⟩; clear HSTART)
    | go_in)
  obtain ⟨hH, hCP⟩ := HCPY.out wB hb1 rb1 cb HB
  have HCP := Hid.mk hCP
  clear hCP HCPY HB
  refine wp_region_held_drew (S := S3n w.heap.size cb t) (by kernel_rfl) hH (fun hH => ?_)
  change wpAnyH Try.prog Region.Mode.any _ _ _ 9 _ _ _
  refine takeH 0 10 (.pointer (some ⟨w.heap.size, 0, none⟩)) rfl (by kernel_rfl) (by kernel_rfl) (by kernel_rfl) (by kernel_rfl) (fun _ _ _ h => h) (by kernel_rfl) (fun w hw => by kernel_rfl) hH ?_
  simp only [List.setIfInBounds_toArray, List.set_cons_zero, List.set_cons_succ]
  refine takeH 1 11 (.pointer (some ⟨w.heap.size, 0, none⟩)) rfl (by kernel_rfl) (by kernel_rfl) (by kernel_rfl) (by kernel_rfl) (fun _ _ _ h => h) (by kernel_rfl) (fun w hw => by go_simp) hH ?_
  simp only [List.setIfInBounds_toArray, List.set_cons_zero, List.set_cons_succ]
  refine takeH 2 12 (.pointer (some ⟨w.heap.size, 2, none⟩)) rfl (by kernel_rfl) (by kernel_rfl) (by kernel_rfl) (by kernel_rfl) (fun _ _ _ h => h) (by kernel_rfl) (fun w hw => by go_simp) hH ?_
  simp only [List.setIfInBounds_toArray, List.set_cons_zero, List.set_cons_succ]
  refine takeH 3 13 (.map (some cb)) rfl (by kernel_rfl) (by kernel_rfl) (by kernel_rfl) (by kernel_rfl) (fun _ _ _ h => h) (by kernel_rfl) (fun w hw => by (try dsimp only at hw); obtain ⟨hw1, hw2, hw3⟩ := hw; go_simp) hH ?_
  simp only [List.setIfInBounds_toArray, List.set_cons_zero, List.set_cons_succ]
  refine takeH 4 14 (.pointer (some ⟨t, 0, none⟩)) rfl (by kernel_rfl) (by kernel_rfl) (by kernel_rfl) (by kernel_rfl) (fun _ _ _ h => h) (by kernel_rfl) (fun w hw => by kernel_rfl) hH ?_
  simp only [List.setIfInBounds_toArray, List.set_cons_zero, List.set_cons_succ]
  refine takeH 5 15 (.pointer (some ⟨t, 0, none⟩)) rfl (by kernel_rfl) (by kernel_rfl) (by kernel_rfl) (by kernel_rfl) (fun _ _ _ h => h) (by kernel_rfl) (fun w hw => by go_simp) hH ?_
  simp only [List.setIfInBounds_toArray, List.set_cons_zero, List.set_cons_succ]
  refine takeH 6 16 (.pointer (some ⟨t, 2, none⟩)) rfl (by kernel_rfl) (by kernel_rfl) (by kernel_rfl) (by kernel_rfl) (fun _ _ _ h => h) (by kernel_rfl) (fun w hw => by go_simp) hH ?_
  simp only [List.setIfInBounds_toArray, List.set_cons_zero, List.set_cons_succ]
  refine takeH 7 17 (.map none) rfl (by kernel_rfl) (by kernel_rfl) (by kernel_rfl) (by kernel_rfl) (fun _ _ _ h => h) (by kernel_rfl) (fun w hw => by (try dsimp only at hw); obtain ⟨hw1, hw2, hw3⟩ := hw; go_simp) hH ?_
  simp only [List.setIfInBounds_toArray, List.set_cons_zero, List.set_cons_succ]
  refine stepH_call 8 18 rfl (by kernel_rfl) (by kernel_rfl) (by kernel_rfl) 46 #[.tmp 13, .tmp 17] #[52, 52] (by kernel_rfl) (enters_of Try.func46 (by kernel_rfl) rfl) #[.map (some cb), .map none] (by kernel_rfl) HCP.out ?_
  rintro e w4 ⟨rfl, hS4, hcr, H4⟩
  refine ⟨_, rfl, hS4, ?_⟩
  simp only [List.setIfInBounds_toArray, List.set_cons_zero, List.set_cons_succ]
  refine wpAnyH_done (by kernel_rfl) ?_ _
  have hrg := run_range_nilMap (P := Try.prog) w4 51 _ _ Try.underlying51
  have hnx : ∀ ty, (Instr.next (.pointer (some ⟨w4.heap.size, 0, none⟩)) false ty).run Try.prog (w4.alloc (.mapIter none 0 #[] 0)) = _ := fun ty => run_next_nilMap _ ty 0 0 #[]
  go_wp2
  refine wp_loop_rounds 1 ?_
  rw [rounds_succ]
  go_wp2
  go_ret
  exact ⟨_, rfl, H4⟩
theorem stuck_nil (h : TbAt F w t Td.none) {N : Nat} (hN : N ≤ 300) : Calls Try.prog 23 #[ptV t] w fun e w' => ∃ v, e = .returned v ∧ Hid (StkTo w Ta.none.waited v w') := stuck0 (D := Td.none) (N := N) (sk_start0 (waited_nil h) ok_none (Fit.none.mono (Nat.zero_le _)) hN) hN
end
/-- Stuck, whatever was asked. -/
theorem o_stuck2 {X : Nat → Prop} {w W : World} {t N : Nat} {A : Ta} (h : LkO X w W t A N) (hN : N ≤ 300) : Calls Try.prog 23 #[ptV t] W fun e W' => ∃ ao n c, e = .returned (.slice ao n c) ∧ Hid (∃ L A', L.length = n ∧ Steps A.waited A' ∧ A'.Done ∧ A'.Ok ∧ KeyL (intF lkV A'.waits) L ∧ LAt W' ao n L ∧ LkO X w W' t A N ∧ Below W.heap.size W W') := by
  obtain ⟨D, h1, rfl, h3, h4⟩ := h.at'
  have hS : Calls Try.prog 23 #[ptV t] W fun e w' => ∃ v, e = .returned v ∧ Hid (StkTo W D.abs.waited v w') := by
    rcases h3 with rfl | q
    · exact stuck_nil h1 hN
    · exact stuck_any h1 q h.ok h4 hN
  refine hS.mono ?_
  rintro e W' ⟨v, rfl, HQ⟩
  obtain ⟨L, A', a1, a2, a3, a4, a5, a6⟩ := HQ.out
  obtain ⟨ao, c, rfl, hl⟩ := owns_lat a5
  exact ⟨ao, L.length, c, rfl, Hid.mk ⟨L, A', rfl, a1, a2, a3, a4, hl, h.grow a6, a6⟩⟩
end Go.Proofs.Ytoediflikoedaaa
