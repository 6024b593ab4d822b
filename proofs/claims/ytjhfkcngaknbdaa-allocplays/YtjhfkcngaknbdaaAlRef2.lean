/-
  The reference's Alloc: made, its blocks taken, what is free told.
-/
import Derived.Test.YtjhfkcngaknbdaaAlRef
namespace Go.Proofs.Ytjhfkcngaknbdaa
open Go Go.Proofs Go.RowKit Go.Shelf

theorem rnew_done {w W : World} {G I D : Int} {N M s u : Nat} (hB : Below w.heap.size w W) (hs : OwB W s N noT) (hu : OwB W u M noT) (h1 : s ≠ u) (h2 : w.heap.size ≤ s) (h3 : w.heap.size ≤ u) :
    w.heap.size ≤ W.heap.size ∧ w.heap.size ≤ s ∧ w.heap.size ≤ u ∧ RfAt (W.alloc (.cells #[.int .i64 G, .int .i64 I, .int .i64 D, .slice (some ⟨s, 0, none⟩) N N, .slice (some ⟨u, 0, none⟩) M M] 58)) W.heap.size s u G I D N M noT noT ∧ Below w.heap.size w (W.alloc (.cells #[.int .i64 G, .int .i64 I, .int .i64 D, .slice (some ⟨s, 0, none⟩) N N, .slice (some ⟨u, 0, none⟩) M M] 58)) := by
  have l1 := hs.lt
  have l2 := hu.lt
  exact ⟨hB.size, h2, h3, ⟨blk_new W _, hs.keep (Below.heap_alloc _ _ _ l1), hu.keep (Below.heap_alloc _ _ _ l2), h1, by omega, by omega⟩, hB.alloc hB.size _⟩
set_option maxRecDepth 100000 in
set_option maxHeartbeats 4000000 in
theorem rnew_any (w : World) (G I D : Int) (N M : Nat) (hN : inoI G I D = (N : Int)) (hM : blkI G I D = (M : Int)) (hb : N ≤ 8000 ∧ M ≤ 8000) :
    Calls Try.prog 10 #[geo G I D] w fun e w' => ∃ r s u, e = .returned (.pointer (some ⟨r, 0, none⟩)) ∧ (w.heap.size ≤ r ∧ w.heap.size ≤ s ∧ w.heap.size ≤ u ∧ RfAt w' r s u G I D N M noT noT ∧ Below w.heap.size w w') := by
  have HRI : Hid (∀ W, Calls Try.prog 22 #[geo G I D] W fun e w' => e = .returned (.int .i64 N) ∧ Below W.heap.size W w') := Hid.mk (fun W => by have := rinodes_any W G I D; rw [hN] at this; exact this)
  have HRB : Hid (∀ W, Calls Try.prog 23 #[geo G I D] W fun e w' => e = .returned (.int .i64 M) ∧ Below W.heap.size W w') := Hid.mk (fun W => by have := rblocks_any W G I D; rw [hM] at this; exact this)
  have HNN := Hid.mk hb
  clear hN hM hb
  go_enter Try.func10, Try.ntmps10
  go_wp2_with fail
  obtain ⟨w1, hw1⟩ : ∃ w1, w1 = w.alloc (.cells #[.int .i64 G, .int .i64 I, .int .i64 D] 23) := ⟨_, rfl⟩
  have HG0 : Hid (GAt w.heap.size G I D w1) := Hid.mk (by rw [hw1]; exact GAt.new w G I D)
  have HB1 : Hid (Below w.heap.size w w1) := Hid.mk (by rw [hw1]; exact (Below.refl _ w).alloc (Nat.le_refl _) _)
  rw [← hw1]
  clear hw1
  have HK : Hid (∀ W', Below w1.heap.size w1.drew W' → G3 w.heap.size G I D W') := Hid.mk (fun W' hB => (GAt.below (W := w1.drew) HG0.out hB HG0.out.lt).g3)
  have HBW : Hid (∀ W', Below w1.heap.size w1.drew W' → Below w.heap.size w W') := Hid.mk (fun W' hB => HB1.out.drew.trans (hB.mono HB1.out.size))
  refine wp_region_held_drew (S := G3 w.heap.size G I D) (by kernel_rfl) (HK.out _ (Below.refl _ _)) (fun hH => ?_)
  change wpAnyH Try.prog Region.Mode.any _ _ _ 10 _ _ _
  refine takeH 0 3 (geo G I D) rfl (by kernel_rfl) (by kernel_rfl) (by kernel_rfl) (by kernel_rfl) (fun _ _ _ h => h) (by kernel_rfl) (fun w hw => by (try dsimp only at hw); go_simp) hH ?_
  simp only [List.setIfInBounds_toArray, List.set_cons_zero, List.set_cons_succ]
  refine takeH 1 4 (geo G I D) rfl (by kernel_rfl) (by kernel_rfl) (by kernel_rfl) (by kernel_rfl) (fun _ _ _ h => h) (by kernel_rfl) (fun w hw => by (try dsimp only at hw); go_simp) hH ?_
  simp only [List.setIfInBounds_toArray, List.set_cons_zero, List.set_cons_succ]
  refine takeH 4 7 (geo G I D) rfl (by kernel_rfl) (by kernel_rfl) (by kernel_rfl) (by kernel_rfl) (fun _ _ _ h => h) (by kernel_rfl) (fun w hw => by (try dsimp only at hw); go_simp) hH ?_
  simp only [List.setIfInBounds_toArray, List.set_cons_zero, List.set_cons_succ]
  refine stepH_call 2 5 rfl (by kernel_rfl) (by kernel_rfl) (by kernel_rfl) 22 #[.tmp 4] #[23] (by kernel_rfl) (enters_of Try.func22 (by kernel_rfl) rfl) #[geo G I D] (by kernel_rfl) (HRI.out _) ?_
  rintro e w5 ⟨rfl, hB5⟩
  have hH5 := HK.out _ hB5
  refine ⟨_, rfl, hH5, ?_⟩
  simp only [List.setIfInBounds_toArray, List.set_cons_zero, List.set_cons_succ]
  refine stepH_two 3 5 (by kernel_rfl) ?_ ?_
  · have hA5 : Below w1.drew.heap.size w1.drew (w5.alloc (.cells (bo N noT) 4)) := Below.trans hB5 (Below.mono ((Below.refl w5.heap.size w5).alloc (Nat.le_refl _) (.cells (bo N noT) 4)) (Below.size hB5))
    refine opH_run 3 6 (.slice (some ⟨w5.heap.size, 0, none⟩) N N) (w5.alloc (.cells (bo N noT) 4)) rfl (by kernel_rfl) (by kernel_rfl) (exec_make39 (l := .tmp 5) (c := .tmp 5) rfl (by kernel_rfl) (by kernel_rfl) (makeb_run w5 N (by have := HNN.out; omega))) (HK.out _ hA5) ?_
    simp only [List.setIfInBounds_toArray, List.set_cons_zero, List.set_cons_succ]
    refine stepH_call 5 8 rfl (by kernel_rfl) (by kernel_rfl) (by kernel_rfl) 23 #[.tmp 7] #[23] (by kernel_rfl) (enters_of Try.func23 (by kernel_rfl) rfl) #[geo G I D] (by kernel_rfl) (HRB.out _) ?_
    rintro e w6 ⟨rfl, hB6⟩
    have hA6 : Below w1.drew.heap.size w1.drew w6 := Below.trans hA5 (Below.mono hB6 (Below.size hA5))
    refine ⟨_, rfl, HK.out _ hA6, ?_⟩
    simp only [List.setIfInBounds_toArray, List.set_cons_zero, List.set_cons_succ]
    have hA7 : Below w1.drew.heap.size w1.drew (w6.alloc (.cells (bo M noT) 4)) := Below.trans hA6 (Below.mono ((Below.refl w6.heap.size w6).alloc (Nat.le_refl _) (.cells (bo M noT) 4)) (Below.size hA6))
    refine stepH_run 6 9 (.slice (some ⟨w6.heap.size, 0, none⟩) M M) (w6.alloc (.cells (bo M noT) 4)) rfl (by kernel_rfl) (by kernel_rfl) (by kernel_rfl) (exec_make39 (l := .tmp 8) (c := .tmp 8) rfl (by kernel_rfl) (by kernel_rfl) (makeb_run w6 M (by have := HNN.out; omega))) (HK.out _ hA7) ?_
    simp only [List.setIfInBounds_toArray, List.set_cons_zero, List.set_cons_succ]
    refine takeH 7 10 (.agg #[.int .i64 G, .int .i64 I, .int .i64 D, .slice (some ⟨w5.heap.size, 0, none⟩) N N, .slice (some ⟨w6.heap.size, 0, none⟩) M M]) rfl (by kernel_rfl) (by kernel_rfl) (by kernel_rfl) (by kernel_rfl) (fun _ _ _ h => h) (by kernel_rfl) (fun w hw => by exact exec_build58 (x := .tmp 3) (y := .tmp 6) (z := .tmp 9) rfl (by kernel_rfl) (by kernel_rfl) (by kernel_rfl)) (HK.out _ hA7) ?_
    simp only [List.setIfInBounds_toArray, List.set_cons_zero, List.set_cons_succ]
    refine stepH_run 8 11 (.pointer (some ⟨(w6.alloc (.cells (bo M noT) 4)).heap.size, 0, none⟩)) ((w6.alloc (.cells (bo M noT) 4)).alloc (.cells #[.int .i64 G, .int .i64 I, .int .i64 D, .slice (some ⟨w5.heap.size, 0, none⟩) N N, .slice (some ⟨w6.heap.size, 0, none⟩) M M] 58)) rfl (by kernel_rfl) (by kernel_rfl) (by kernel_rfl) (exec_box58 (x := .tmp 10) rfl (by kernel_rfl)) (HK.out _ ((hA7).alloc (show w1.drew.heap.size ≤ _ from Below.size (hA7)) _)) ?_
    simp only [List.setIfInBounds_toArray, List.set_cons_zero, List.set_cons_succ]
    refine takeH 9 2 (.pointer (some ⟨(w6.alloc (.cells (bo M noT) 4)).heap.size, 0, none⟩)) rfl (by kernel_rfl) (by kernel_rfl) (by kernel_rfl) (by kernel_rfl) (fun _ _ _ h => h) (by kernel_rfl) (fun w hw => by kernel_rfl) (HK.out _ ((hA7).alloc (show w1.drew.heap.size ≤ _ from Below.size (hA7)) _)) ?_
    simp only [List.setIfInBounds_toArray, List.set_cons_zero, List.set_cons_succ]
    refine wpAnyH_done (by kernel_rfl) ?_ _
    go_wp2
    go_ret
    have hsz6 : w5.heap.size + 1 ≤ w6.heap.size := by (have := hB6.size; rw [World.size_alloc] at this; exact this)
    have hs5 : w.heap.size ≤ w5.heap.size := (HBW.out _ hB5).size
    exact ⟨_, w5.heap.size, w6.heap.size, rfl, rnew_done (HBW.out _ hA7) (by (unfold OwB; rw [Below.heap_alloc _ _ _ (by omega), hB6.block _ (by rw [World.size_alloc]; omega)]; exact blk_new w5 _)) (blk_new w6 _) (by omega) hs5 (by omega)⟩
  · refine opH_call 5 8 rfl (by kernel_rfl) (by kernel_rfl) 23 #[.tmp 7] #[23] (by kernel_rfl) (enters_of Try.func23 (by kernel_rfl) rfl) #[geo G I D] (by kernel_rfl) (HRB.out _) ?_
    rintro e w6 ⟨rfl, hB6⟩
    have hA6 : Below w1.drew.heap.size w1.drew w6 := Below.trans hB5 (Below.mono hB6 (Below.size hB5))
    refine ⟨_, rfl, HK.out _ hA6, ?_⟩
    simp only [List.setIfInBounds_toArray, List.set_cons_zero, List.set_cons_succ]
    refine stepH_two 3 6 (by kernel_rfl) ?_ ?_
    · have hA7 : Below w1.drew.heap.size w1.drew (w6.alloc (.cells (bo N noT) 4)) := Below.trans hA6 (Below.mono ((Below.refl w6.heap.size w6).alloc (Nat.le_refl _) (.cells (bo N noT) 4)) (Below.size hA6))
      have hA8 : Below w1.drew.heap.size w1.drew ((w6.alloc (.cells (bo N noT) 4)).alloc (.cells (bo M noT) 4)) := Below.trans hA7 (Below.mono ((Below.refl (w6.alloc (.cells (bo N noT) 4)).heap.size (w6.alloc (.cells (bo N noT) 4))).alloc (Nat.le_refl _) (.cells (bo M noT) 4)) (Below.size hA7))
      refine opH_run 3 6 (.slice (some ⟨w6.heap.size, 0, none⟩) N N) (w6.alloc (.cells (bo N noT) 4)) rfl (by kernel_rfl) (by kernel_rfl) (exec_make39 (l := .tmp 5) (c := .tmp 5) rfl (by kernel_rfl) (by kernel_rfl) (makeb_run w6 N (by have := HNN.out; omega))) (HK.out _ hA7) ?_
      simp only [List.setIfInBounds_toArray, List.set_cons_zero, List.set_cons_succ]
      refine stepH_run 6 9 (.slice (some ⟨(w6.alloc (.cells (bo N noT) 4)).heap.size, 0, none⟩) M M) ((w6.alloc (.cells (bo N noT) 4)).alloc (.cells (bo M noT) 4)) rfl (by kernel_rfl) (by kernel_rfl) (by kernel_rfl) (exec_make39 (l := .tmp 8) (c := .tmp 8) rfl (by kernel_rfl) (by kernel_rfl) (makeb_run (w6.alloc (.cells (bo N noT) 4)) M (by have := HNN.out; omega))) (HK.out _ hA8) ?_
      simp only [List.setIfInBounds_toArray, List.set_cons_zero, List.set_cons_succ]
      refine takeH 7 10 (.agg #[.int .i64 G, .int .i64 I, .int .i64 D, .slice (some ⟨w6.heap.size, 0, none⟩) N N, .slice (some ⟨(w6.alloc (.cells (bo N noT) 4)).heap.size, 0, none⟩) M M]) rfl (by kernel_rfl) (by kernel_rfl) (by kernel_rfl) (by kernel_rfl) (fun _ _ _ h => h) (by kernel_rfl) (fun w hw => by exact exec_build58 (x := .tmp 3) (y := .tmp 6) (z := .tmp 9) rfl (by kernel_rfl) (by kernel_rfl) (by kernel_rfl)) (HK.out _ hA8) ?_
      simp only [List.setIfInBounds_toArray, List.set_cons_zero, List.set_cons_succ]
      refine stepH_run 8 11 (.pointer (some ⟨((w6.alloc (.cells (bo N noT) 4)).alloc (.cells (bo M noT) 4)).heap.size, 0, none⟩)) (((w6.alloc (.cells (bo N noT) 4)).alloc (.cells (bo M noT) 4)).alloc (.cells #[.int .i64 G, .int .i64 I, .int .i64 D, .slice (some ⟨w6.heap.size, 0, none⟩) N N, .slice (some ⟨(w6.alloc (.cells (bo N noT) 4)).heap.size, 0, none⟩) M M] 58)) rfl (by kernel_rfl) (by kernel_rfl) (by kernel_rfl) (exec_box58 (x := .tmp 10) rfl (by kernel_rfl)) (HK.out _ ((hA8).alloc (show w1.drew.heap.size ≤ _ from Below.size (hA8)) _)) ?_
      simp only [List.setIfInBounds_toArray, List.set_cons_zero, List.set_cons_succ]
      refine takeH 9 2 (.pointer (some ⟨((w6.alloc (.cells (bo N noT) 4)).alloc (.cells (bo M noT) 4)).heap.size, 0, none⟩)) rfl (by kernel_rfl) (by kernel_rfl) (by kernel_rfl) (by kernel_rfl) (fun _ _ _ h => h) (by kernel_rfl) (fun w hw => by kernel_rfl) (HK.out _ ((hA8).alloc (show w1.drew.heap.size ≤ _ from Below.size (hA8)) _)) ?_
      simp only [List.setIfInBounds_toArray, List.set_cons_zero, List.set_cons_succ]
      refine wpAnyH_done (by kernel_rfl) ?_ _
      go_wp2
      go_ret
      have hs6 : w.heap.size ≤ w6.heap.size := (HBW.out _ hA6).size
      exact ⟨_, w6.heap.size, (w6.alloc (.cells (bo N noT) 4)).heap.size, rfl, rnew_done (HBW.out _ hA8) (by (unfold OwB; rw [Below.heap_alloc _ _ _ (by simp)]; exact blk_new w6 _)) (blk_new (w6.alloc (.cells (bo N noT) 4)) _) (by simp) hs6 (by rw [World.size_alloc]; omega)⟩
    · have hA7 : Below w1.drew.heap.size w1.drew (w6.alloc (.cells (bo M noT) 4)) := Below.trans hA6 (Below.mono ((Below.refl w6.heap.size w6).alloc (Nat.le_refl _) (.cells (bo M noT) 4)) (Below.size hA6))
      have hA8 : Below w1.drew.heap.size w1.drew ((w6.alloc (.cells (bo M noT) 4)).alloc (.cells (bo N noT) 4)) := Below.trans hA7 (Below.mono ((Below.refl (w6.alloc (.cells (bo M noT) 4)).heap.size (w6.alloc (.cells (bo M noT) 4))).alloc (Nat.le_refl _) (.cells (bo N noT) 4)) (Below.size hA7))
      refine opH_run 6 9 (.slice (some ⟨w6.heap.size, 0, none⟩) M M) (w6.alloc (.cells (bo M noT) 4)) rfl (by kernel_rfl) (by kernel_rfl) (exec_make39 (l := .tmp 8) (c := .tmp 8) rfl (by kernel_rfl) (by kernel_rfl) (makeb_run w6 M (by have := HNN.out; omega))) (HK.out _ hA7) ?_
      simp only [List.setIfInBounds_toArray, List.set_cons_zero, List.set_cons_succ]
      refine stepH_run 3 6 (.slice (some ⟨(w6.alloc (.cells (bo M noT) 4)).heap.size, 0, none⟩) N N) ((w6.alloc (.cells (bo M noT) 4)).alloc (.cells (bo N noT) 4)) rfl (by kernel_rfl) (by kernel_rfl) (by kernel_rfl) (exec_make39 (l := .tmp 5) (c := .tmp 5) rfl (by kernel_rfl) (by kernel_rfl) (makeb_run (w6.alloc (.cells (bo M noT) 4)) N (by have := HNN.out; omega))) (HK.out _ hA8) ?_
      simp only [List.setIfInBounds_toArray, List.set_cons_zero, List.set_cons_succ]
      refine takeH 7 10 (.agg #[.int .i64 G, .int .i64 I, .int .i64 D, .slice (some ⟨(w6.alloc (.cells (bo M noT) 4)).heap.size, 0, none⟩) N N, .slice (some ⟨w6.heap.size, 0, none⟩) M M]) rfl (by kernel_rfl) (by kernel_rfl) (by kernel_rfl) (by kernel_rfl) (fun _ _ _ h => h) (by kernel_rfl) (fun w hw => by exact exec_build58 (x := .tmp 3) (y := .tmp 6) (z := .tmp 9) rfl (by kernel_rfl) (by kernel_rfl) (by kernel_rfl)) (HK.out _ hA8) ?_
      simp only [List.setIfInBounds_toArray, List.set_cons_zero, List.set_cons_succ]
      refine stepH_run 8 11 (.pointer (some ⟨((w6.alloc (.cells (bo M noT) 4)).alloc (.cells (bo N noT) 4)).heap.size, 0, none⟩)) (((w6.alloc (.cells (bo M noT) 4)).alloc (.cells (bo N noT) 4)).alloc (.cells #[.int .i64 G, .int .i64 I, .int .i64 D, .slice (some ⟨(w6.alloc (.cells (bo M noT) 4)).heap.size, 0, none⟩) N N, .slice (some ⟨w6.heap.size, 0, none⟩) M M] 58)) rfl (by kernel_rfl) (by kernel_rfl) (by kernel_rfl) (exec_box58 (x := .tmp 10) rfl (by kernel_rfl)) (HK.out _ ((hA8).alloc (show w1.drew.heap.size ≤ _ from Below.size (hA8)) _)) ?_
      simp only [List.setIfInBounds_toArray, List.set_cons_zero, List.set_cons_succ]
      refine takeH 9 2 (.pointer (some ⟨((w6.alloc (.cells (bo M noT) 4)).alloc (.cells (bo N noT) 4)).heap.size, 0, none⟩)) rfl (by kernel_rfl) (by kernel_rfl) (by kernel_rfl) (by kernel_rfl) (fun _ _ _ h => h) (by kernel_rfl) (fun w hw => by kernel_rfl) (HK.out _ ((hA8).alloc (show w1.drew.heap.size ≤ _ from Below.size (hA8)) _)) ?_
      simp only [List.setIfInBounds_toArray, List.set_cons_zero, List.set_cons_succ]
      refine wpAnyH_done (by kernel_rfl) ?_ _
      go_wp2
      go_ret
      have hs6 : w.heap.size ≤ w6.heap.size := (HBW.out _ hA6).size
      exact ⟨_, (w6.alloc (.cells (bo M noT) 4)).heap.size, w6.heap.size, rfl, rnew_done (HBW.out _ hA8) (blk_new (w6.alloc (.cells (bo M noT) 4)) _) (by (unfold OwB; rw [Below.heap_alloc _ _ _ (by simp)]; exact blk_new w6 _)) (by simp) (by rw [World.size_alloc]; omega) hs6⟩
set_option maxRecDepth 100000 in
set_option maxHeartbeats 4000000 in
theorem rtake_any (w : World) (r s u : Nat) (G I D : Int) (g i d : Nat) (hg : Geo2 G I D g i d) (ti td : Nat → Bool) (N M : Nat) (hM : M = g * d) (h : RfAt w r s u G I D N M ti td) (group : Int) :
    Calls Try.prog 14 #[.pointer (some ⟨r, 0, none⟩), .int .i64 group] w fun e w' => e = .returned (blR g i d (nxD g d td group)) ∧ RfAt w' r s u G I D N M ti (updO td (nxD g d td group)) ∧ Only (fun j => j = u) w w' := by
  obtain ⟨n1, n2, g8, i4, d1, hpos⟩ := hg.nums
  have c0 : w.cell? ⟨r, 0, none⟩ = some (.int .i64 G) := by rw [blk_cell h.blk]; rfl
  have c1 : w.cell? ⟨r, 1, none⟩ = some (.int .i64 I) := by rw [blk_cell h.blk]; rfl
  have c2 : w.cell? ⟨r, 2, none⟩ = some (.int .i64 D) := by rw [blk_cell h.blk]; rfl
  have c4 : w.cell? ⟨r, 4, none⟩ = some (.slice (some ⟨u, 0, none⟩) M M) := by rw [blk_cell h.blk]; rfl
  have hg0 : 0 < M → 0 < g := fun h0 => by rcases Nat.eq_zero_or_pos g with e | e; rw [e] at hM; simp at hM; omega; exact e
  have HNX : Hid (∀ W : World, W.heap = w.heap → Calls Try.prog 31 #[.slice (some ⟨u, 0, none⟩) M M, .int .i64 D, .int .i64 group] W fun e w' => e = .returned (.int .i64 (nxV (nxD g d td group))) ∧ w' = W) := Hid.mk (fun W e => by
    have := rnext_any W u M td (h.sd.keep (by rw [e])) g d hM g8 (by omega) D group (fun h0 => (hpos (hg0 h0)).2.2.2.1)
    rw [hM] at this ⊢
    exact this)
  have hlt : ∀ k, nxD g d td group = some k → k < M := fun k hk => by rw [hM]; exact (next_is hk).1
  have hval : ∀ k, nxD g d td group = some k → G = g ∧ I = i ∧ D = d ∧ daB G I D (k : Int) = true := fun k hk => by
    have hk := hlt k hk
    obtain ⟨p1, p2, p3, p4, _⟩ := hpos (hg0 (by omega))
    have hMI : (M : Int) = (g : Int) * (d : Int) := by rw [hM]; push_cast; rfl
    exact ⟨p2, p3, p4, (da_yes p1 (by omega) (by rw [p2, p4, ← hMI]; omega)).1⟩
  have HR := Hid.mk h
  clear n1 n2 g8 i4 d1 hpos hM hg hg0
  generalize nxD g d td group = res at *
  cases res with
  | none =>
    dsimp only [nxV] at HNX
    clear hlt h hval
    go_enter Try.func14, Try.ntmps14
    go_wp2_with fail
    refine wp_region_held_drew (S := fun W => W.cell? ⟨r, 2, none⟩ = some (.int .i64 D) ∧ W.cell? ⟨r, 4, none⟩ = some (.slice (some ⟨u, 0, none⟩) M M)) (by kernel_rfl) ⟨c2, c4⟩ (fun hH => ?_)
    change wpAnyH Try.prog Region.Mode.any _ _ _ 12 _ _ _
    refine takeH 0 9 (.pointer (some ⟨r, 0, none⟩)) rfl (by kernel_rfl) (by kernel_rfl) (by kernel_rfl) (by kernel_rfl) (fun _ _ _ h => h) (by kernel_rfl) (fun w hw => by kernel_rfl) hH ?_
    simp only [List.setIfInBounds_toArray, List.set_cons_zero, List.set_cons_succ]
    refine takeH 1 10 (.pointer (some ⟨r, 0, none⟩)) rfl (by kernel_rfl) (by kernel_rfl) (by kernel_rfl) (by kernel_rfl) (fun _ _ _ h => h) (by kernel_rfl) (fun w hw => by (try dsimp only at hw); go_simp) hH ?_
    simp only [List.setIfInBounds_toArray, List.set_cons_zero, List.set_cons_succ]
    refine takeH 2 11 (.pointer (some ⟨r, 4, none⟩)) rfl (by kernel_rfl) (by kernel_rfl) (by kernel_rfl) (by kernel_rfl) (fun _ _ _ h => h) (by kernel_rfl) (fun w hw => by (try dsimp only at hw); go_simp) hH ?_
    simp only [List.setIfInBounds_toArray, List.set_cons_zero, List.set_cons_succ]
    refine takeH 3 12 (.slice (some ⟨u, 0, none⟩) M M) rfl (by kernel_rfl) (by kernel_rfl) (by kernel_rfl) (by kernel_rfl) (fun _ _ _ h => h) (by kernel_rfl) (fun w hw => by (try dsimp only at hw); go_simp) hH ?_
    simp only [List.setIfInBounds_toArray, List.set_cons_zero, List.set_cons_succ]
    refine takeH 4 13 (.pointer (some ⟨r, 0, none⟩)) rfl (by kernel_rfl) (by kernel_rfl) (by kernel_rfl) (by kernel_rfl) (fun _ _ _ h => h) (by kernel_rfl) (fun w hw => by kernel_rfl) hH ?_
    simp only [List.setIfInBounds_toArray, List.set_cons_zero, List.set_cons_succ]
    refine takeH 5 14 (.pointer (some ⟨r, 0, none⟩)) rfl (by kernel_rfl) (by kernel_rfl) (by kernel_rfl) (by kernel_rfl) (fun _ _ _ h => h) (by kernel_rfl) (fun w hw => by (try dsimp only at hw); go_simp) hH ?_
    simp only [List.setIfInBounds_toArray, List.set_cons_zero, List.set_cons_succ]
    refine takeH 6 15 (.pointer (some ⟨r, 0, none⟩)) rfl (by kernel_rfl) (by kernel_rfl) (by kernel_rfl) (by kernel_rfl) (fun _ _ _ h => h) (by kernel_rfl) (fun w hw => by (try dsimp only at hw); go_simp) hH ?_
    simp only [List.setIfInBounds_toArray, List.set_cons_zero, List.set_cons_succ]
    refine takeH 7 16 (.pointer (some ⟨r, 2, none⟩)) rfl (by kernel_rfl) (by kernel_rfl) (by kernel_rfl) (by kernel_rfl) (fun _ _ _ h => h) (by kernel_rfl) (fun w hw => by (try dsimp only at hw); go_simp) hH ?_
    simp only [List.setIfInBounds_toArray, List.set_cons_zero, List.set_cons_succ]
    refine takeH 8 17 (.int .i64 D) rfl (by kernel_rfl) (by kernel_rfl) (by kernel_rfl) (by kernel_rfl) (fun _ _ _ h => h) (by kernel_rfl) (fun w hw => by (try dsimp only at hw); go_simp) hH ?_
    simp only [List.setIfInBounds_toArray, List.set_cons_zero, List.set_cons_succ]
    refine takeH 9 18 (.int .i64 group) rfl (by kernel_rfl) (by kernel_rfl) (by kernel_rfl) (by kernel_rfl) (fun _ _ _ h => h) (by kernel_rfl) (fun w hw => by kernel_rfl) hH ?_
    simp only [List.setIfInBounds_toArray, List.set_cons_zero, List.set_cons_succ]
    refine stepH_call 10 19 rfl (by kernel_rfl) (by kernel_rfl) (by kernel_rfl) 31 #[.tmp 12, .tmp 17, .tmp 18] #[44, 3, 3] (by kernel_rfl) (enters_of Try.func31 (by kernel_rfl) rfl) #[.slice (some ⟨u, 0, none⟩) M M, .int .i64 D, .int .i64 group] (by kernel_rfl) (HNX.out _ rfl) ?_
    rintro e w6 ⟨rfl, hw6⟩
    subst w6
    refine ⟨_, rfl, hH, ?_⟩
    simp only [List.setIfInBounds_toArray, List.set_cons_zero, List.set_cons_succ]
    refine takeH 11 6 (.int .i64 (-1)) rfl (by kernel_rfl) (by kernel_rfl) (by kernel_rfl) (by kernel_rfl) (fun _ _ _ h => h) (by kernel_rfl) (fun w hw => by kernel_rfl) hH ?_
    simp only [List.setIfInBounds_toArray, List.set_cons_zero, List.set_cons_succ]
    refine wpAnyH_done (by kernel_rfl) ?_ _
    go_wp2
    go_ret2
    exact ⟨rfl, HR.out.keep rfl rfl rfl, (Only.refl _ _).drew⟩
  | some k =>
    have hk := hlt k rfl
    obtain ⟨rfl, rfl, rfl, hda⟩ := hval k rfl
    have hfin := (HR.out.keep (W' := w.drew) rfl rfl rfl).turnD (k := k) true rfl
    have hcell : w.drew.cell? ⟨u, k, none⟩ = some (.bool (td k)) := h.sd.cell hk
    have hfree : w.drew.frozen? ⟨u, k, none⟩ = false := blk_free h.sd k
    have hR : blR g i d (some k) = .tuple #[.int .i64 (daI g i d k), .bool (daB g i d k)] := rfl
    rw [hR, hda]
    have HDA := Hid.mk (fun W => rdata_any W g i d k)
    rw [hda] at HDA
    generalize daI (g : Int) (i : Int) (d : Int) (k : Int) = x at *
    have v2 : (0 : Int) ≤ (k : Int) := by omega
    have v3 : (k : Int) < (M : Int) := by omega
    have v4 : ¬ (k : Int) < 0 := by omega
    have s0 : (w.setCell ⟨u, k, none⟩ (.bool true)).cell? ⟨r, 0, none⟩ = some (.int .i64 g) := (blk_cell (w := w.drew.setCell ⟨u, k, none⟩ (.bool true)) hfin.1.blk 0).trans rfl
    have s1 : (w.setCell ⟨u, k, none⟩ (.bool true)).cell? ⟨r, 1, none⟩ = some (.int .i64 i) := (blk_cell (w := w.drew.setCell ⟨u, k, none⟩ (.bool true)) hfin.1.blk 1).trans rfl
    have s2 : (w.setCell ⟨u, k, none⟩ (.bool true)).cell? ⟨r, 2, none⟩ = some (.int .i64 d) := (blk_cell (w := w.drew.setCell ⟨u, k, none⟩ (.bool true)) hfin.1.blk 2).trans rfl
    have HF := Hid.mk hfin
    dsimp only [nxV] at HNX
    clear hlt h hfin hR hk hval hda
    go_enter Try.func14, Try.ntmps14
    go_wp2_with fail
    refine wp_region_held_drew (S := fun W => W.cell? ⟨r, 2, none⟩ = some (.int .i64 d) ∧ W.cell? ⟨r, 4, none⟩ = some (.slice (some ⟨u, 0, none⟩) M M)) (by kernel_rfl) ⟨c2, c4⟩ (fun hH => ?_)
    change wpAnyH Try.prog Region.Mode.any _ _ _ 12 _ _ _
    refine takeH 0 9 (.pointer (some ⟨r, 0, none⟩)) rfl (by kernel_rfl) (by kernel_rfl) (by kernel_rfl) (by kernel_rfl) (fun _ _ _ h => h) (by kernel_rfl) (fun w hw => by kernel_rfl) hH ?_
    simp only [List.setIfInBounds_toArray, List.set_cons_zero, List.set_cons_succ]
    refine takeH 1 10 (.pointer (some ⟨r, 0, none⟩)) rfl (by kernel_rfl) (by kernel_rfl) (by kernel_rfl) (by kernel_rfl) (fun _ _ _ h => h) (by kernel_rfl) (fun w hw => by (try dsimp only at hw); go_simp) hH ?_
    simp only [List.setIfInBounds_toArray, List.set_cons_zero, List.set_cons_succ]
    refine takeH 2 11 (.pointer (some ⟨r, 4, none⟩)) rfl (by kernel_rfl) (by kernel_rfl) (by kernel_rfl) (by kernel_rfl) (fun _ _ _ h => h) (by kernel_rfl) (fun w hw => by (try dsimp only at hw); go_simp) hH ?_
    simp only [List.setIfInBounds_toArray, List.set_cons_zero, List.set_cons_succ]
    refine takeH 3 12 (.slice (some ⟨u, 0, none⟩) M M) rfl (by kernel_rfl) (by kernel_rfl) (by kernel_rfl) (by kernel_rfl) (fun _ _ _ h => h) (by kernel_rfl) (fun w hw => by (try dsimp only at hw); go_simp) hH ?_
    simp only [List.setIfInBounds_toArray, List.set_cons_zero, List.set_cons_succ]
    refine takeH 4 13 (.pointer (some ⟨r, 0, none⟩)) rfl (by kernel_rfl) (by kernel_rfl) (by kernel_rfl) (by kernel_rfl) (fun _ _ _ h => h) (by kernel_rfl) (fun w hw => by kernel_rfl) hH ?_
    simp only [List.setIfInBounds_toArray, List.set_cons_zero, List.set_cons_succ]
    refine takeH 5 14 (.pointer (some ⟨r, 0, none⟩)) rfl (by kernel_rfl) (by kernel_rfl) (by kernel_rfl) (by kernel_rfl) (fun _ _ _ h => h) (by kernel_rfl) (fun w hw => by (try dsimp only at hw); go_simp) hH ?_
    simp only [List.setIfInBounds_toArray, List.set_cons_zero, List.set_cons_succ]
    refine takeH 6 15 (.pointer (some ⟨r, 0, none⟩)) rfl (by kernel_rfl) (by kernel_rfl) (by kernel_rfl) (by kernel_rfl) (fun _ _ _ h => h) (by kernel_rfl) (fun w hw => by (try dsimp only at hw); go_simp) hH ?_
    simp only [List.setIfInBounds_toArray, List.set_cons_zero, List.set_cons_succ]
    refine takeH 7 16 (.pointer (some ⟨r, 2, none⟩)) rfl (by kernel_rfl) (by kernel_rfl) (by kernel_rfl) (by kernel_rfl) (fun _ _ _ h => h) (by kernel_rfl) (fun w hw => by (try dsimp only at hw); go_simp) hH ?_
    simp only [List.setIfInBounds_toArray, List.set_cons_zero, List.set_cons_succ]
    refine takeH 8 17 (.int .i64 d) rfl (by kernel_rfl) (by kernel_rfl) (by kernel_rfl) (by kernel_rfl) (fun _ _ _ h => h) (by kernel_rfl) (fun w hw => by (try dsimp only at hw); go_simp) hH ?_
    simp only [List.setIfInBounds_toArray, List.set_cons_zero, List.set_cons_succ]
    refine takeH 9 18 (.int .i64 group) rfl (by kernel_rfl) (by kernel_rfl) (by kernel_rfl) (by kernel_rfl) (fun _ _ _ h => h) (by kernel_rfl) (fun w hw => by kernel_rfl) hH ?_
    simp only [List.setIfInBounds_toArray, List.set_cons_zero, List.set_cons_succ]
    refine stepH_call 10 19 rfl (by kernel_rfl) (by kernel_rfl) (by kernel_rfl) 31 #[.tmp 12, .tmp 17, .tmp 18] #[44, 3, 3] (by kernel_rfl) (enters_of Try.func31 (by kernel_rfl) rfl) #[.slice (some ⟨u, 0, none⟩) M M, .int .i64 d, .int .i64 group] (by kernel_rfl) (HNX.out _ rfl) ?_
    rintro e w6 ⟨rfl, hw6⟩
    subst w6
    refine ⟨_, rfl, hH, ?_⟩
    simp only [List.setIfInBounds_toArray, List.set_cons_zero, List.set_cons_succ]
    refine takeH 11 6 (.int .i64 (k : Nat)) rfl (by kernel_rfl) (by kernel_rfl) (by kernel_rfl) (by kernel_rfl) (fun _ _ _ h => h) (by kernel_rfl) (fun w hw => by kernel_rfl) hH ?_
    simp only [List.setIfInBounds_toArray, List.set_cons_zero, List.set_cons_succ]
    refine wpAnyH_done (by kernel_rfl) ?_ _
    obtain ⟨hH1, hH3⟩ := hH
    go_wp2_with (go_at_call 25; refine (HDA.out _).mono ?_; rintro e w7 ⟨rfl, hB7⟩)
    go_ret2
    have hO : Only (fun j => j = u) w (w.drew.setCell ⟨u, k, none⟩ (.bool true)) := ⟨HF.out.2.os, HF.out.2.tape, HF.out.2.output, HF.out.2.size, HF.out.2.block⟩
    exact ⟨rfl, HF.out.1.below hB7, hO.trans (T := fun _ => False) (Only.of_new _ hB7) (fun _ h => h.elim)⟩
set_option maxRecDepth 100000 in
set_option maxHeartbeats 4000000 in
theorem rfree_any (w : World) (r s u : Nat) (G I D : Int) (ti td : Nat → Bool) (N M : Nat) (hb : N ≤ 8000 ∧ M ≤ 8000) (h : RfAt w r s u G I D N M ti td) :
    Calls Try.prog 19 #[.pointer (some ⟨r, 0, none⟩)] w fun e w' => e = .returned (.tuple #[.int .i64 ((freeN ti N : Nat) : Int), .int .i64 ((freeN td M : Nat) : Int)]) ∧ w' = w := by
  have c3 : w.cell? ⟨r, 3, none⟩ = some (.slice (some ⟨s, 0, none⟩) N N) := by rw [blk_cell h.blk]; rfl
  have c4 : w.cell? ⟨r, 4, none⟩ = some (.slice (some ⟨u, 0, none⟩) M M) := by rw [blk_cell h.blk]; rfl
  have HSI := Hid.mk h.si
  have HSD := Hid.mk h.sd
  have HNN := Hid.mk hb
  clear h hb
  go_enter Try.func19, Try.ntmps19
  go_wp2
  go_loopw [4, 6] (fun cv kv wr => ∃ k cn : Nat, kv = .int .i64 k ∧ cv = .int .i64 cn ∧ wr = w ∧ Hid (k ≤ N ∧ cn = freeN ti k)) (fun _ kv _ => N - (intOf kv).toNat)
  case atStart => exact ⟨0, 0, rfl, rfl, rfl, Hid.mk ⟨Nat.zero_le _, rfl⟩⟩
  case round =>
    obtain ⟨k, cn, rfl, rfl, rfl, HK⟩ := hrel
    by_cases hlt : (k : Int) < (N : Int)
    · have hcell := HSI.out.cell (i := k) (by omega)
      have v1 : (0 : Int) ≤ (k : Int) := by omega
      obtain ⟨k1, hk1⟩ : ∃ k1, k1 = k + 1 := ⟨_, rfl⟩
      obtain ⟨c1, hc1⟩ : ∃ c1, c1 = cn + 1 := ⟨_, rfl⟩
      have v2 : IntKind.i64.wrap ((k : Int) + 1) = (k1 : Int) := by have := HNN.out; rw [IntKind.wrap_i64]; omega
      have v3 : IntKind.i64.wrap ((cn : Int) + 1) = (c1 : Int) := by have := HNN.out; have h1 := HK.out.2; have h2 := freeN_le ti k; rw [IntKind.wrap_i64]; omega
      have HK1 : Hid (k1 = k + 1 ∧ k < N ∧ c1 = cn + 1) := Hid.mk ⟨hk1, by omega, hc1⟩
      have hst := freeN_succ ti k
      cases hf : ti k with
      | false =>
        rw [hf] at hcell hst
        have HST := Hid.mk hst
        clear hf hst hk1 hc1
        go_wp2
        go_roundw
        case rel =>
          obtain ⟨e1, e2, e3⟩ := HK1.out
          exact ⟨k1, c1, rfl, rfl, by simp, Hid.mk ⟨by omega, by rw [e1, HST.out, e3, HK.out.2]; rfl⟩⟩
        case measure => (have := HK1.out; simp [intOf]; omega)
      | true =>
        rw [hf] at hcell hst
        have HST := Hid.mk hst
        clear hf hst hk1 hc1
        go_wp2
        go_roundw
        case rel =>
          obtain ⟨e1, e2, e3⟩ := HK1.out
          exact ⟨k1, cn, rfl, rfl, by simp, Hid.mk ⟨by omega, by rw [e1, HST.out, HK.out.2]; rfl⟩⟩
        case measure => (have := HK1.out; simp [intOf]; omega)
    · have HCN : Hid (cn = freeN ti N) := Hid.mk (by have := HK.out; rw [this.2]; congr 1; omega)
      clear HK HSI
      go_wp2
      go_loopw [5, 7] (fun cv kv wr2 => ∃ k dn : Nat, kv = .int .i64 k ∧ cv = .int .i64 dn ∧ wr2 = wr ∧ Hid (k ≤ M ∧ dn = freeN td k)) (fun _ kv _ => M - (intOf kv).toNat)
      case atStart => exact ⟨0, 0, rfl, rfl, rfl, Hid.mk ⟨Nat.zero_le _, rfl⟩⟩
      case round =>
        obtain ⟨k2, dn, rfl, rfl, rfl, HK⟩ := hrel
        by_cases hlt2 : (k2 : Int) < (M : Int)
        · have hcell := HSD.out.cell (i := k2) (by omega)
          have v1 : (0 : Int) ≤ (k2 : Int) := by omega
          obtain ⟨k1, hk1⟩ : ∃ k1, k1 = k2 + 1 := ⟨_, rfl⟩
          obtain ⟨c1, hc1⟩ : ∃ c1, c1 = dn + 1 := ⟨_, rfl⟩
          have v2 : IntKind.i64.wrap ((k2 : Int) + 1) = (k1 : Int) := by have := HNN.out; rw [IntKind.wrap_i64]; omega
          have v3 : IntKind.i64.wrap ((dn : Int) + 1) = (c1 : Int) := by have := HNN.out; have h1 := HK.out.2; have h2 := freeN_le td k2; rw [IntKind.wrap_i64]; omega
          have HK1 : Hid (k1 = k2 + 1 ∧ k2 < M ∧ c1 = dn + 1) := Hid.mk ⟨hk1, by omega, hc1⟩
          have hst := freeN_succ td k2
          cases hf : td k2 with
          | false =>
            rw [hf] at hcell hst
            have HST := Hid.mk hst
            clear hf hst hk1 hc1
            go_wp2
            go_roundw
            case rel =>
              obtain ⟨e1, e2, e3⟩ := HK1.out
              exact ⟨k1, c1, rfl, rfl, by simp, Hid.mk ⟨by omega, by rw [e1, HST.out, e3, HK.out.2]; rfl⟩⟩
            case measure => (have := HK1.out; simp [intOf]; omega)
          | true =>
            rw [hf] at hcell hst
            have HST := Hid.mk hst
            clear hf hst hk1 hc1
            go_wp2
            go_roundw
            case rel =>
              obtain ⟨e1, e2, e3⟩ := HK1.out
              exact ⟨k1, dn, rfl, rfl, by simp, Hid.mk ⟨by omega, by rw [e1, HST.out, HK.out.2]; rfl⟩⟩
            case measure => (have := HK1.out; simp [intOf]; omega)
        · have HDN : Hid (dn = freeN td M) := Hid.mk (by have := HK.out; rw [this.2]; congr 1; omega)
          clear HK HSD
          go_wp2
          go_ret2
          exact ⟨by rw [← HCN.out, ← HDN.out]; rfl, rfl⟩
end Go.Proofs.Ytjhfkcngaknbdaa
