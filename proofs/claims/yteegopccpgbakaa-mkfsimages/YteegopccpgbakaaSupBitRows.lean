/-
  inodeRow, dataRow and Bits of the program.
-/
import Derived.Test.YteegopccpgbakaaSupRow
namespace Go.Proofs.Yteegopccpgbakaa
open Go Go.Proofs Go.RowKit Go.Shelf
namespace Sup
/-- How many bits a group's inodes have, its data blocks, and in how many bytes. -/
def nI (I : Int) : Nat := (I * 16).toNat
def nD (D : Int) : Nat := D.toNat
def bD (D : Int) : Nat := (D.toNat + 7) / 8
theorem _root_.Go.Proofs.Yteegopccpgbakaa.BAt.new {w : World} {ao : Option Addr} {n : Nat} {xs : List Int} (h : BAt w ao n xs) {B : Nat} {W : World} (hb : Below B w W) (hB : w.heap.size ≤ B) : BAt W ao n xs :=
  h.only (Only.of_new (fun _ => False) ⟨hb.os, hb.tape, hb.output, hb.size, fun k hk => hb.block k (by omega)⟩) (fun _ _ _ h => h)
set_option maxHeartbeats 1000000 in
theorem inoderow_any (w : World) (G I D : Int) (hg : good G I D = true) (ao : Option Addr) (n c : Nat) (ys : List Int) (hb : BAt w ao n ys) (hy : ∀ x ∈ ys, 0 ≤ x ∧ x ≤ 255) (hnone : ao = none → n = 0 ∧ c = 0) :
    Calls Try.prog 43 #[geo G I D, .slice ao n c] w fun e w' => ∃ g, e = .returned (.slice (some ⟨g, 0, none⟩) 8 8) ∧ RAt w' g (maskL ys (nI I) 8) ∧ w.heap.size ≤ g ∧ Below w.heap.size w w' := by
  have hgb := good_iff.1 hg
  have hB0 : Below w.heap.size w (w.alloc (.cells #[.int .i64 G, .int .i64 I, .int .i64 D] 23)) := (Below.refl _ w).alloc (Nat.le_refl _) _
  have e : ((nI I : Nat) : Int) = I * 16 := by unfold nI; omega
  have h := row_any (w.alloc (.cells #[.int .i64 G, .int .i64 I, .int .i64 D] 23)) ao n c ys (hb.new hB0 (Nat.le_refl _)) hy hnone (nI I) 8 (by omega) (by omega) (by omega)
  rw [e] at h
  have H := Hid.mk h
  have hw : IntKind.i64.wrap (I * 16) = I * 16 := by rw [IntKind.wrap_i64]; omega
  have HB0 := Hid.mk hB0
  clear h e hb hy hnone hg hgb hB0
  go_enter Try.func43, Try.ntmps43
  go_wp2_with (go_at_call 58; refine H.out.mono ?_; rintro e w1 ⟨g, rfl, hrow, hge, hB⟩; have HR := Hid.mk hrow; have HGE := Hid.mk hge; have HB := Hid.mk hB; clear hrow hge hB)
  go_ret
  refine ⟨g, rfl, HR.out, ?_, HB0.out.trans (HB.out.mono HB0.out.size)⟩
  exact Nat.le_trans HB0.out.size HGE.out
set_option maxRecDepth 100000 in
set_option maxHeartbeats 1000000 in
theorem datarow_any (w : World) (G I D : Int) (hg : good G I D = true) (ao : Option Addr) (n c : Nat) (ys : List Int) (hb : BAt w ao n ys) (hy : ∀ x ∈ ys, 0 ≤ x ∧ x ≤ 255) (hnone : ao = none → n = 0 ∧ c = 0) :
    Calls Try.prog 44 #[geo G I D, .slice ao n c] w fun e w' => ∃ g, e = .returned (.slice (some ⟨g, 0, none⟩) (bD D) (bD D)) ∧ RAt w' g (maskL ys (nD D) (bD D)) ∧ w.heap.size ≤ g ∧ Below w.heap.size w w' := by
  have hgb := good_iff.1 hg
  have hB0 : Below w.heap.size w (w.alloc (.cells #[.int .i64 G, .int .i64 I, .int .i64 D] 23)) := (Below.refl _ w).alloc (Nat.le_refl _) _
  have e : ((nD D : Nat) : Int) = D := by unfold nD; omega
  have H37 : Hid (∀ W, G3 w.heap.size G I D W → Calls Try.prog 58 #[.slice ao n c, .int .i64 D, .int .i64 (bD D : Int)] (w.alloc (.cells #[.int .i64 G, .int .i64 I, .int .i64 D] 23)).drew fun e w' => ∃ g, e = .returned (.slice (some ⟨g, 0, none⟩) (bD D) (bD D)) ∧ RAt w' g (maskL ys (nD D) (bD D)) ∧ (w.alloc (.cells #[.int .i64 G, .int .i64 I, .int .i64 D] 23)).heap.size ≤ g ∧ Below (w.alloc (.cells #[.int .i64 G, .int .i64 I, .int .i64 D] 23)).heap.size (w.alloc (.cells #[.int .i64 G, .int .i64 I, .int .i64 D] 23)).drew w') := Hid.mk (fun _ _ => by
    have h := row_any (w.alloc (.cells #[.int .i64 G, .int .i64 I, .int .i64 D] 23)).drew ao n c ys (hb.new hB0.drew (Nat.le_refl _)) hy hnone (nD D) (bD D) (by unfold nD; omega) (by unfold nD bD; omega) (by unfold bD; omega)
    rw [e] at h
    exact h)
  have H38 : Hid (∀ W : World, Calls Try.prog 59 #[.int .i64 D] W fun e w' => e = .returned (.int .i64 (bD D : Int)) ∧ w' = W) := Hid.mk (fun W => by
    have h := bytesfor_any W (nD D) (by unfold nD; omega)
    rw [e] at h
    exact h)
  have HB0 := Hid.mk hB0
  have hG := GAt.new w G I D
  have HK : Hid (∀ W', Below (w.alloc (.cells #[.int .i64 G, .int .i64 I, .int .i64 D] 23)).heap.size (w.alloc (.cells #[.int .i64 G, .int .i64 I, .int .i64 D] 23)).drew W' → G3 w.heap.size G I D W') := Hid.mk (fun W' hB => (GAt.below (W := (w.alloc (.cells #[.int .i64 G, .int .i64 I, .int .i64 D] 23)).drew) hG hB (by simp)).g3)
  clear e hb hy hnone hg hgb hB0 hG
  go_enter Try.func44, Try.ntmps44
  go_wp2_with fail
  refine wp_region_held_drew (S := G3 w.heap.size G I D) (by kernel_rfl) (HK.out _ (Below.refl _ _)) (fun hH => ?_)
  change wpAnyH Try.prog Region.Mode.any _ _ _ 8 _ _ _
  refine takeH 0 5 (.slice ao n c) rfl (by kernel_rfl) (by kernel_rfl) (by kernel_rfl) (by kernel_rfl) (fun _ _ _ h => h) (by kernel_rfl) (fun w hw => by kernel_rfl) hH ?_
  simp only [List.setIfInBounds_toArray, List.set_cons_zero, List.set_cons_succ]
  refine takeH 1 6 (.pointer (some ⟨w.heap.size, 2, none⟩)) rfl (by kernel_rfl) (by kernel_rfl) (by kernel_rfl) (by kernel_rfl) (fun _ _ _ h => h) (by kernel_rfl) (fun w hw => by ((try dsimp only at hw); go_simp)) hH ?_
  simp only [List.setIfInBounds_toArray, List.set_cons_zero, List.set_cons_succ]
  refine takeH 2 7 (.int .i64 (D)) rfl (by kernel_rfl) (by kernel_rfl) (by kernel_rfl) (by kernel_rfl) (fun _ _ _ h => h) (by kernel_rfl) (fun w hw => by ((try dsimp only at hw); go_simp)) hH ?_
  simp only [List.setIfInBounds_toArray, List.set_cons_zero, List.set_cons_succ]
  refine takeH 3 8 (.pointer (some ⟨w.heap.size, 2, none⟩)) rfl (by kernel_rfl) (by kernel_rfl) (by kernel_rfl) (by kernel_rfl) (fun _ _ _ h => h) (by kernel_rfl) (fun w hw => by ((try dsimp only at hw); go_simp)) hH ?_
  simp only [List.setIfInBounds_toArray, List.set_cons_zero, List.set_cons_succ]
  refine takeH 4 9 (.int .i64 (D)) rfl (by kernel_rfl) (by kernel_rfl) (by kernel_rfl) (by kernel_rfl) (fun _ _ _ h => h) (by kernel_rfl) (fun w hw => by ((try dsimp only at hw); go_simp)) hH ?_
  simp only [List.setIfInBounds_toArray, List.set_cons_zero, List.set_cons_succ]
  refine stepH_call 5 10 rfl (by kernel_rfl) (by kernel_rfl) (by kernel_rfl) 59 #[.tmp 9] #[3] (by kernel_rfl) (enters_of Try.func59 (by kernel_rfl) rfl) #[.int .i64 (D)] (by kernel_rfl) (H38.out _) ?_
  rintro e w5 ⟨rfl, hw⟩
  subst w5
  refine ⟨_, rfl, hH, ?_⟩
  simp only [List.setIfInBounds_toArray, List.set_cons_zero, List.set_cons_succ]
  refine stepH_call 6 11 rfl (by kernel_rfl) (by kernel_rfl) (by kernel_rfl) 58 #[.tmp 5, .tmp 7, .tmp 10] #[26, 3, 3] (by kernel_rfl) (enters_of Try.func58 (by kernel_rfl) rfl) #[.slice ao n c, .int .i64 (D), .int .i64 (bD D : Int)] (by kernel_rfl) (H37.out _ hH) ?_
  rintro e w6 ⟨g, rfl, hrow, hge, hB⟩
  have hH6 := HK.out w6 hB
  have HRW := Hid.mk hrow
  have HB6 := Hid.mk hB
  have HGE := Hid.mk hge
  clear hrow hB hge
  refine ⟨_, rfl, hH6, ?_⟩
  simp only [List.setIfInBounds_toArray, List.set_cons_zero, List.set_cons_succ]
  refine takeH 7 4 (.slice (some ⟨g, 0, none⟩) (bD D) (bD D)) rfl (by kernel_rfl) (by kernel_rfl) (by kernel_rfl) (by kernel_rfl) (fun _ _ _ h => h) (by kernel_rfl) (fun w hw => by kernel_rfl) hH6 ?_
  simp only [List.setIfInBounds_toArray, List.set_cons_zero, List.set_cons_succ]
  refine wpAnyH_done (by kernel_rfl) ?_ _
  clear hH hH6 HK H37 H38
  go_wp2
  go_ret
  exact ⟨g, rfl, HRW.out, Nat.le_trans HB0.out.size HGE.out, HB0.out.drew.trans (HB6.out.mono HB0.out.size)⟩
end Sup
end Go.Proofs.Yteegopccpgbakaa
