/-
  inodeRow, dataRow and Bits of the program.
-/
import Derived.Test.YtjhfkcngaknbdaaSupRow
namespace Go.Proofs.Ytjhfkcngaknbdaa
open Go Go.Proofs Go.RowKit Go.Shelf
namespace Sup
/-- How many bits a group's inodes have, its data blocks, and in how many bytes. -/
def nI (I : Int) : Nat := (I * 16).toNat
def nD (D : Int) : Nat := D.toNat
def bD (D : Int) : Nat := (D.toNat + 7) / 8
set_option maxRecDepth 100000 in
theorem _root_.Go.Proofs.Ytjhfkcngaknbdaa.BAt.new {w : World} {ao : Option Addr} {n : Nat} {xs : List Int} (h : BAt w ao n xs) {B : Nat} {W : World} (hb : Below B w W) (hB : w.heap.size ≤ B) : BAt W ao n xs :=
  h.only (Only.of_new (fun _ => False) ⟨hb.os, hb.tape, hb.output, hb.size, fun k hk => hb.block k (by omega)⟩) (fun _ _ _ h => h)
set_option maxRecDepth 100000 in
set_option maxHeartbeats 1000000 in
theorem inoderow_any (w : World) (G I D : Int) (hg : good G I D = true) (ao : Option Addr) (n c : Nat) (ys : List Int) (hb : BAt w ao n ys) (hy : ∀ x ∈ ys, 0 ≤ x ∧ x ≤ 255) (hnone : ao = none → n = 0 ∧ c = 0) :
    Calls Try.prog 41 #[geo G I D, .slice ao n c] w fun e w' => ∃ g, e = .returned (.slice (some ⟨g, 0, none⟩) 8 8) ∧ RAt w' g (maskL ys (nI I) 8) ∧ w.heap.size ≤ g ∧ Below w.heap.size w w' := by
  have hgb := good_iff.1 hg
  have hB0 : Below w.heap.size w (w.alloc (.cells #[.int .i64 G, .int .i64 I, .int .i64 D] 23)) := (Below.refl _ w).alloc (Nat.le_refl _) _
  have e : ((nI I : Nat) : Int) = I * 16 := by unfold nI; omega
  have h := row_any (w.alloc (.cells #[.int .i64 G, .int .i64 I, .int .i64 D] 23)) ao n c ys (hb.new hB0 (Nat.le_refl _)) hy hnone (nI I) 8 (by omega) (by omega) (by omega)
  rw [e] at h
  have H := Hid.mk h
  have hw : IntKind.i64.wrap (I * 16) = I * 16 := by rw [IntKind.wrap_i64]; omega
  have HB0 := Hid.mk hB0
  clear h e hb hy hnone hg hgb hB0
  go_enter Try.func41, Try.ntmps41
  go_wp2_with (go_at_call 52; refine H.out.mono ?_; rintro e w1 ⟨g, rfl, hrow, hge, hB⟩; have HR := Hid.mk hrow; have HGE := Hid.mk hge; have HB := Hid.mk hB; clear hrow hge hB)
  go_ret
  refine ⟨g, rfl, HR.out, ?_, HB0.out.trans (HB.out.mono HB0.out.size)⟩
  exact Nat.le_trans HB0.out.size HGE.out
set_option maxRecDepth 100000 in
set_option maxHeartbeats 1000000 in
theorem datarow_any (w : World) (G I D : Int) (hg : good G I D = true) (ao : Option Addr) (n c : Nat) (ys : List Int) (hb : BAt w ao n ys) (hy : ∀ x ∈ ys, 0 ≤ x ∧ x ≤ 255) (hnone : ao = none → n = 0 ∧ c = 0) :
    Calls Try.prog 42 #[geo G I D, .slice ao n c] w fun e w' => ∃ g, e = .returned (.slice (some ⟨g, 0, none⟩) (bD D) (bD D)) ∧ RAt w' g (maskL ys (nD D) (bD D)) ∧ w.heap.size ≤ g ∧ Below w.heap.size w w' := by
  have hgb := good_iff.1 hg
  have hB0 : Below w.heap.size w (w.alloc (.cells #[.int .i64 G, .int .i64 I, .int .i64 D] 23)) := (Below.refl _ w).alloc (Nat.le_refl _) _
  have e : ((nD D : Nat) : Int) = D := by unfold nD; omega
  have H37 : Hid (∀ W, G3 w.heap.size G I D W → Calls Try.prog 52 #[.slice ao n c, .int .i64 D, .int .i64 (bD D : Int)] (w.alloc (.cells #[.int .i64 G, .int .i64 I, .int .i64 D] 23)).drew fun e w' => ∃ g, e = .returned (.slice (some ⟨g, 0, none⟩) (bD D) (bD D)) ∧ RAt w' g (maskL ys (nD D) (bD D)) ∧ (w.alloc (.cells #[.int .i64 G, .int .i64 I, .int .i64 D] 23)).heap.size ≤ g ∧ Below (w.alloc (.cells #[.int .i64 G, .int .i64 I, .int .i64 D] 23)).heap.size (w.alloc (.cells #[.int .i64 G, .int .i64 I, .int .i64 D] 23)).drew w') := Hid.mk (fun _ _ => by
    have h := row_any (w.alloc (.cells #[.int .i64 G, .int .i64 I, .int .i64 D] 23)).drew ao n c ys (hb.new hB0.drew (Nat.le_refl _)) hy hnone (nD D) (bD D) (by unfold nD; omega) (by unfold nD bD; omega) (by unfold bD; omega)
    rw [e] at h
    exact h)
  have H38 : Hid (∀ W : World, Calls Try.prog 53 #[.int .i64 D] W fun e w' => e = .returned (.int .i64 (bD D : Int)) ∧ w' = W) := Hid.mk (fun W => by
    have h := bytesfor_any W (nD D) (by unfold nD; omega)
    rw [e] at h
    exact h)
  have HB0 := Hid.mk hB0
  have hG := GAt.new w G I D
  have HK : Hid (∀ W', Below (w.alloc (.cells #[.int .i64 G, .int .i64 I, .int .i64 D] 23)).heap.size (w.alloc (.cells #[.int .i64 G, .int .i64 I, .int .i64 D] 23)).drew W' → G3 w.heap.size G I D W') := Hid.mk (fun W' hB => (GAt.below (W := (w.alloc (.cells #[.int .i64 G, .int .i64 I, .int .i64 D] 23)).drew) hG hB (by simp)).g3)
  clear e hb hy hnone hg hgb hB0 hG
  go_enter Try.func42, Try.ntmps42
  go_wp2_with fail
  refine wp_region_held_drew (S := G3 w.heap.size G I D) (by kernel_rfl) (HK.out _ (Below.refl _ _)) (fun hH => ?_)
  change wpAnyH Try.prog Region.Mode.any _ _ _ 8 _ _ _
  refine takeH 0 5 (.slice ao n c) rfl (by kernel_rfl) (by kernel_rfl) (by kernel_rfl) (by kernel_rfl) (fun _ _ _ h => h) (by kernel_rfl) (fun w hw => by kernel_rfl) hH ?_
  simp only [List.setIfInBounds_toArray, List.set_cons_zero, List.set_cons_succ]
  refine takeH 1 6 (.pointer (some ⟨w.heap.size, 2, none⟩)) rfl (by kernel_rfl) (by kernel_rfl) (by kernel_rfl) (by kernel_rfl) (fun _ _ _ h => h) (by kernel_rfl) (fun w hw => by ((try dsimp only at hw); go_simp)) hH ?_
  simp only [List.setIfInBounds_toArray, List.set_cons_zero, List.set_cons_succ]
  refine takeH 2 7 (.int .i64 (D)) rfl (by kernel_rfl) (by kernel_rfl) (by kernel_rfl) (by kernel_rfl) (fun _ _ _ h => h) (by kernel_rfl) (fun w hw => by ((try dsimp only at hw); go_simp)) hH ?_
  simp only [List.setIfInBounds_toArray, List.set_cons_zero, List.set_cons_succ]
  refine takeH 3 8 (.pointer (some ⟨w.heap.size, 2, none⟩)) rfl (by kernel_rfl) (by kernel_rfl) (by kernel_rfl) (by kernel_rfl) (fun _ _ _ h => h) (by kernel_rfl) (fun w hw => by ((try dsimp only at hw); go_simp)) hH ?_
  simp only [List.setIfInBounds_toArray, List.set_cons_zero, List.set_cons_succ]
  refine takeH 4 9 (.int .i64 (D)) rfl (by kernel_rfl) (by kernel_rfl) (by kernel_rfl) (by kernel_rfl) (fun _ _ _ h => h) (by kernel_rfl) (fun w hw => by ((try dsimp only at hw); go_simp)) hH ?_
  simp only [List.setIfInBounds_toArray, List.set_cons_zero, List.set_cons_succ]
  refine stepH_call 5 10 rfl (by kernel_rfl) (by kernel_rfl) (by kernel_rfl) 53 #[.tmp 9] #[3] (by kernel_rfl) (enters_of Try.func53 (by kernel_rfl) rfl) #[.int .i64 (D)] (by kernel_rfl) (H38.out _) ?_
  rintro e w5 ⟨rfl, hw⟩
  subst w5
  refine ⟨_, rfl, hH, ?_⟩
  simp only [List.setIfInBounds_toArray, List.set_cons_zero, List.set_cons_succ]
  refine stepH_call 6 11 rfl (by kernel_rfl) (by kernel_rfl) (by kernel_rfl) 52 #[.tmp 5, .tmp 7, .tmp 10] #[39, 3, 3] (by kernel_rfl) (enters_of Try.func52 (by kernel_rfl) rfl) #[.slice ao n c, .int .i64 (D), .int .i64 (bD D : Int)] (by kernel_rfl) (H37.out _ hH) ?_
  rintro e w6 ⟨g, rfl, hrow, hge, hB⟩
  have hH6 := HK.out w6 hB
  have HRW := Hid.mk hrow
  have HB6 := Hid.mk hB
  have HGE := Hid.mk hge
  clear hrow hB hge
  refine ⟨_, rfl, hH6, ?_⟩
  simp only [List.setIfInBounds_toArray, List.set_cons_zero, List.set_cons_succ]
  refine takeH 7 4 (.slice (some ⟨g, 0, none⟩) (bD D) (bD D)) rfl (by kernel_rfl) (by kernel_rfl) (by kernel_rfl) (by kernel_rfl) (fun _ _ _ h => h) (by kernel_rfl) (fun w hw => by kernel_rfl) hH6 ?_
  simp only [List.setIfInBounds_toArray, List.set_cons_zero, List.set_cons_succ]
  refine wpAnyH_done (by kernel_rfl) ?_ _
  clear hH hH6 HK H37 H38
  go_wp2
  go_ret
  exact ⟨g, rfl, HRW.out, Nat.le_trans HB0.out.size HGE.out, HB0.out.drew.trans (HB6.out.mono HB0.out.size)⟩
set_option maxRecDepth 100000 in
theorem bits_bad (w : World) (G I D : Int) (hg : good G I D = false) (ao : Option Addr) (n c : Nat) :
    Calls Try.prog 27 #[geo G I D, .slice ao n c] w fun e w' => e = .returned (.tuple #[.slice none 0 0, .slice none 0 0]) ∧ Below w.heap.size w w' := by
  have HG := Hid.mk hg
  clear hg
  go_enter Try.func27, Try.ntmps27
  go_wp2_with (go_at_call 26; refine (check_no _ G I D HG.out).mono ?_; rintro e w1 ⟨rfl, hB⟩; obtain ⟨hG1, hB1⟩ := behind hB; have HB1 := Hid.mk hB1; clear hB hG1 hB1)
  go_ret2
  exact ⟨rfl, HB1.out⟩
set_option maxRecDepth 100000 in
theorem bits_short (w : World) (G I D : Int) (hg : good G I D = true) (ao : Option Addr) (n c : Nat) (hn : n ≠ 1024) :
    Calls Try.prog 27 #[geo G I D, .slice ao n c] w fun e w' => e = .returned (.tuple #[.slice none 0 0, .slice none 0 0]) ∧ Below w.heap.size w w' := by
  have HG := Hid.mk hg
  have h1 : ((n : Int) == 1024) = false := by simp; omega
  have h2 : ¬ ((n : Int) = 1024) := by omega
  clear hg
  go_enter Try.func27, Try.ntmps27
  go_wp2_with (go_at_call 26; refine (check_yes _ G I D HG.out).mono ?_; rintro e w1 ⟨rfl, hB⟩; obtain ⟨hG1, hB1⟩ := behind hB; have HB1 := Hid.mk hB1; clear hB hG1 hB1)
  go_ret2
  exact ⟨rfl, HB1.out⟩
set_option maxRecDepth 100000 in
set_option maxHeartbeats 2000000 in
theorem bits_yes (w : World) (G I D : Int) (hg : good G I D = true) (a : Addr) (c : Nat) (ys : List Int) (hb : BAt w (some a) 1024 ys) (hy : ∀ x ∈ ys, 0 ≤ x ∧ x ≤ 255) (hc : 1024 ≤ c) :
    Calls Try.prog 27 #[geo G I D, .slice (some a) 1024 c] w fun e w' => ∃ g1 g2, e = .returned (.tuple #[.slice (some ⟨g1, 0, none⟩) 8 8, .slice (some ⟨g2, 0, none⟩) (bD D) (bD D)]) ∧
      RAt w' g1 (maskL (ys.drop 16) (nI I) 8) ∧ RAt w' g2 (maskL (ys.drop 64) (nD D) (bD D)) ∧ Below w.heap.size w w' := by
  have HG := Hid.mk hg
  have HBA := Hid.mk hb
  have HY := Hid.mk hy
  clear hb hy hg
  go_enter Try.func27, Try.ntmps27
  go_wp2_with (go_at_call 26; refine (check_yes _ G I D HG.out).mono ?_; rintro e w1 ⟨rfl, hB⟩; obtain ⟨hG1, hB1⟩ := behind hB; have HG0 := Hid.mk hG1; have HB1 := Hid.mk hB1; clear hB hG1 hB1)
  have HK : Hid (∀ W', Below w1.heap.size w1.drew W' → G3 w.heap.size G I D W') := Hid.mk (fun W' hB => (GAt.below (W := w1.drew) HG0.out hB HG0.out.lt).g3)
  have HBW : Hid (∀ W', Below w1.heap.size w1.drew W' → BAt W' (some a) 1024 ys) := Hid.mk (fun W' hB => HBA.out.new (HB1.out.drew.trans (hB.mono HB1.out.size)) (Nat.le_refl _))
  have H29 : Hid (∀ W, Below w1.heap.size w1.drew W → Calls Try.prog 41 #[geo G I D, .slice (some ⟨a.block, a.off + 16, none⟩) 1008 (c - 16)] W fun e w' => ∃ g, e = .returned (.slice (some ⟨g, 0, none⟩) 8 8) ∧ RAt w' g (maskL (ys.drop 16) (nI I) 8) ∧ W.heap.size ≤ g ∧ Below W.heap.size W w') := Hid.mk (fun W hB => inoderow_any W G I D HG.out _ _ _ _ ((HBW.out W hB).slice 16 (by omega) (by omega)) (drop_bound ys HY.out 16) (by simp))
  have H30 : Hid (∀ W, Below w1.heap.size w1.drew W → Calls Try.prog 42 #[geo G I D, .slice (some ⟨a.block, a.off + 64, none⟩) 960 (c - 64)] W fun e w' => ∃ g, e = .returned (.slice (some ⟨g, 0, none⟩) (bD D) (bD D)) ∧ RAt w' g (maskL (ys.drop 64) (nD D) (bD D)) ∧ W.heap.size ≤ g ∧ Below W.heap.size W w') := Hid.mk (fun W hB => datarow_any W G I D HG.out _ _ _ _ ((HBW.out W hB).slice 64 (by omega) (by omega)) (drop_bound ys HY.out 64) (by simp))
  refine wp_region_held_drew (S := G3 w.heap.size G I D) (by kernel_rfl) (HK.out _ (Below.refl _ _)) (fun hH => ?_)
  change wpAnyH Try.prog Region.Mode.any _ _ _ 10 _ _ _
  refine takeH 0 14 (geo G I D) rfl (by kernel_rfl) (by kernel_rfl) (by kernel_rfl) (by kernel_rfl) (fun _ _ _ h => h) (by kernel_rfl) (fun w hw => by ((try dsimp only at hw); go_simp)) hH ?_
  simp only [List.setIfInBounds_toArray, List.set_cons_zero, List.set_cons_succ]
  refine takeH 1 15 (.slice (some a) 1024 c) rfl (by kernel_rfl) (by kernel_rfl) (by kernel_rfl) (by kernel_rfl) (fun _ _ _ h => h) (by kernel_rfl) (fun w hw => by kernel_rfl) hH ?_
  simp only [List.setIfInBounds_toArray, List.set_cons_zero, List.set_cons_succ]
  refine takeH 2 16 (.slice (some ⟨a.block, a.off + 16, none⟩) 1008 (c - 16)) rfl (by kernel_rfl) (by kernel_rfl) (by kernel_rfl) (by kernel_rfl) (fun _ _ _ h => h) (by kernel_rfl) (fun w hw => by ((try dsimp only at hw); go_simp; intro hh; omega)) hH ?_
  simp only [List.setIfInBounds_toArray, List.set_cons_zero, List.set_cons_succ]
  refine takeH 4 18 (geo G I D) rfl (by kernel_rfl) (by kernel_rfl) (by kernel_rfl) (by kernel_rfl) (fun _ _ _ h => h) (by kernel_rfl) (fun w hw => by ((try dsimp only at hw); go_simp)) hH ?_
  simp only [List.setIfInBounds_toArray, List.set_cons_zero, List.set_cons_succ]
  refine takeH 5 19 (.slice (some a) 1024 c) rfl (by kernel_rfl) (by kernel_rfl) (by kernel_rfl) (by kernel_rfl) (fun _ _ _ h => h) (by kernel_rfl) (fun w hw => by kernel_rfl) hH ?_
  simp only [List.setIfInBounds_toArray, List.set_cons_zero, List.set_cons_succ]
  refine takeH 6 20 (.slice (some ⟨a.block, a.off + 64, none⟩) 960 (c - 64)) rfl (by kernel_rfl) (by kernel_rfl) (by kernel_rfl) (by kernel_rfl) (fun _ _ _ h => h) (by kernel_rfl) (fun w hw => by ((try dsimp only at hw); go_simp; intro hh; omega)) hH ?_
  simp only [List.setIfInBounds_toArray, List.set_cons_zero, List.set_cons_succ]
  refine stepH_call 3 17 rfl (by kernel_rfl) (by kernel_rfl) (by kernel_rfl) 41 #[.tmp 14, .tmp 16] #[23, 39] (by kernel_rfl) (enters_of Try.func41 (by kernel_rfl) rfl) #[geo G I D, .slice (some ⟨a.block, a.off + 16, none⟩) 1008 (c - 16)] (by kernel_rfl) (H29.out _ (Below.refl _ _)) ?_
  rintro e w5 ⟨g1, rfl, hrow, hge, hB⟩
  have hH5 := HK.out w5 hB
  have HR1 := Hid.mk hrow
  have HB5 := Hid.mk hB
  have HG1 := Hid.mk hge
  clear hrow hB hge
  refine ⟨_, rfl, hH5, ?_⟩
  simp only [List.setIfInBounds_toArray, List.set_cons_zero, List.set_cons_succ]
  refine stepH_call 7 21 rfl (by kernel_rfl) (by kernel_rfl) (by kernel_rfl) 42 #[.tmp 18, .tmp 20] #[23, 39] (by kernel_rfl) (enters_of Try.func42 (by kernel_rfl) rfl) #[geo G I D, .slice (some ⟨a.block, a.off + 64, none⟩) 960 (c - 64)] (by kernel_rfl) (H30.out _ HB5.out) ?_
  rintro e w6 ⟨g2, rfl, hrow, hge, hB⟩
  have hH6 := HK.out w6 (HB5.out.trans (hB.mono HB5.out.size))
  have HR2 := Hid.mk hrow
  have HR1' := Hid.mk (HR1.out.below hB HR1.out.lt)
  have HB6 := Hid.mk (HB5.out.trans (hB.mono HB5.out.size))
  have HG2 := Hid.mk (Nat.le_trans HB5.out.size hge)
  have HNE : Hid (g1 ≠ g2) := Hid.mk (by have := HR1.out.lt; omega)
  clear hrow hB hge
  refine ⟨_, rfl, hH6, ?_⟩
  simp only [List.setIfInBounds_toArray, List.set_cons_zero, List.set_cons_succ]
  refine takeH 8 4 (.slice (some ⟨g1, 0, none⟩) 8 8) rfl (by kernel_rfl) (by kernel_rfl) (by kernel_rfl) (by kernel_rfl) (fun _ _ _ h => h) (by kernel_rfl) (fun w hw => by kernel_rfl) hH6 ?_
  simp only [List.setIfInBounds_toArray, List.set_cons_zero, List.set_cons_succ]
  refine takeH 9 5 (.slice (some ⟨g2, 0, none⟩) (bD D) (bD D)) rfl (by kernel_rfl) (by kernel_rfl) (by kernel_rfl) (by kernel_rfl) (fun _ _ _ h => h) (by kernel_rfl) (fun w hw => by kernel_rfl) hH6 ?_
  simp only [List.setIfInBounds_toArray, List.set_cons_zero, List.set_cons_succ]
  refine wpAnyH_done (by kernel_rfl) ?_ _
  clear hH hH5 hH6 HK H29 H30
  go_wp2
  go_ret2
  exact ⟨g1, g2, rfl, HR1'.out, HR2.out, HB1.out.drew.trans (HB6.out.mono HB1.out.size)⟩
end Sup
end Go.Proofs.Ytjhfkcngaknbdaa
