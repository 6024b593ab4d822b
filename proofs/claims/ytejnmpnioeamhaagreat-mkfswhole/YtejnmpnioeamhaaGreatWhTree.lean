/-
  Usable, and what the root of an empty file system leads to.
-/
import Derived.Test.YtejnmpnioeamhaaGreatWhDisk
namespace Go.Proofs.YtejnmpnioeamhaaGreat
open Go Go.Proofs Go.RowKit Go.Shelf
namespace Mk
open Sup (superL headL maskL nI nD)
open Din (inoL fineL inoV NAt)
open Ent (blockL okB)
set_option maxRecDepth 100000 in
set_option maxHeartbeats 1000000 in
theorem usable_yes (w : World) (g n : Nat) (G I D : Int) (hg : good G I D = true) (xs : List Int) (hr : RAt w g xs) (hx : ImgIs G I D xs) (hn : n = totN G I D * 1024) :
    Calls Tryz.prog 17 #[.slice (some ⟨g, 0, none⟩) n n] w fun e w' => e = .returned (.tuple #[geo G I D, .bool true]) ∧ Below w.heap.size w w' := by
  obtain ⟨t1, t2, t3, t4⟩ := tot_is hg
  have hsr := Sup.super_reads hg
  have HT : Hid (∀ W : World, Calls Tryz.prog 36 #[geo G I D] W fun e w' => e = .returned (.int .i64 (totN G I D : Int)) ∧ Below W.heap.size W w') := Hid.mk (fun W => by
    have h := rtotal_any W G I D
    rwa [t1] at h)
  obtain ⟨t, ht⟩ : ∃ t, t = totN G I D := ⟨_, rfl⟩
  rw [← ht] at HT t2 t3 hn
  have hn2 : ((n : Nat) : Int) = 1024 * t := by omega
  have hn3 : ((n : Int) == 1024 * t) = true := by simp [hn2]
  have hn4 : 11264 ≤ n ∧ n ≤ 16777216 := by omega
  obtain ⟨hn4, hn5⟩ := hn4
  have HR : Hid (∀ W : World, Below w.heap.size w W → Calls Tryz.prog 35 #[.slice (some ⟨g, 0, none⟩) 1024 n] W fun e w' => e = .returned (.tuple #[geo G I D, .bool true]) ∧ Below W.heap.size W w') := Hid.mk (fun W hB => by
    have hba := (hr.below hB hr.lt).bat 0 1024 (by rw [hx.len, ← ht, ← hn]; omega)
    have hp := hx.super
    unfold piece at hp
    rw [hp] at hba
    have h := Sup.rsuper_any W (some ⟨g, 0, none⟩) 1024 n _ hba (Sup.superL_bound _ _ _)
    rwa [hsr.1, hsr.2.1] at h)
  have HB0 : Hid (Below w.heap.size w (w.alloc (.cells #[.int .i64 0, .int .i64 0, .int .i64 0] 23))) := Hid.mk ((Below.refl _ w).alloc (Nat.le_refl _) _)
  have HG0 := Hid.mk (GAt.new w 0 0 0)
  have HNE := Hid.mk hn2
  clear hr hx hg hsr t1 ht t4 hn hn2
  go_enter Tryz.func17, Tryz.ntmps17
  go_wp2_with (first
    | (go_at_call 35; refine (HR.out _ HB0.out).mono ?_; rintro e w1 ⟨rfl, hB⟩; have HB1 := Hid.mk (HB0.out.trans (hB.mono (by simp))); have HG1 := Hid.mk (HG0.out.below hB (by simp)); clear hB)
    | (go_at_call 36; refine (HT.out _).mono ?_; rintro e w2 ⟨rfl, hB⟩; have hg5 := (GAt.new w1 G I D).below hB (by simp); have hg6 := (HG1.out.below ((Below.refl _ w1).alloc (Nat.le_refl _) (.cells #[.int .i64 G, .int .i64 I, .int .i64 D] 23)) HG1.out.lt).below hB (by have := HG1.out.lt; simp; omega); obtain ⟨c0, c1, c2⟩ := hg5.g3; obtain ⟨e0, e1, e2⟩ := hg6.g3; have f0 := blk_free hg6 0; have f1 := blk_free hg6 1; have f2 := blk_free hg6 2; have HB2 := Hid.mk ((HB1.out.alloc HB1.out.size (.cells #[.int .i64 G, .int .i64 I, .int .i64 D] 23)).trans (hB.mono (by have := HB1.out.size; simp; omega))); clear hB hg5 hg6))
  refine bodyPost_ret (v := .tuple #[geo G I D, .bool true]) (by simp [results, Tryz.results17, go_sem, e0, e1, e2]) rfl ⟨rfl, ?_⟩
  exact (((HB2.out.setCell (p := ⟨w.heap.size, 0, none⟩) (Nat.le_refl _) _).setCell (p := ⟨w.heap.size, 1, none⟩) (Nat.le_refl _) _).setCell (p := ⟨w.heap.size, 2, none⟩) (Nat.le_refl _) _)
theorem do_root {G I D : Int} (hg : good G I D = true) : doB G I D (2 + I) = true ∧ doI G I D (2 + I) = 0 := by
  have hb := good_iff.1 hg
  have h := do_at (b := 2 + I) (k := 0) hg (by omega) (by omega) (by omega) (by omega)
  refine ⟨h.1, ?_⟩
  rw [h.2]
  omega
theorem do_none (G I D : Int) : doB G I D 0 = false ∧ doI G I D 0 = 0 := do_no (fun h => by have := do_iff.1 h; omega)
set_option maxRecDepth 100000 in
theorem place_zero (w : World) : Calls Tryz.prog 94 #[.int .i64 0] w fun e w' => e = .returned (.tuple #[.int .i64 0, .int .i64 0, .int .i64 0, .bool true]) ∧ w' = w := by
  go_enter Tryz.func94, Tryz.ntmps94
  go_wp2
  exact bodyPost_ret (v := .tuple #[.int .i64 0, .int .i64 0, .int .i64 0, .bool true]) (by simp [results, Tryz.results94, go_sem]) rfl ⟨rfl, rfl⟩
set_option maxRecDepth 100000 in
theorem count_block (w : World) : Calls Tryz.prog 77 #[.int .i64 1024] w fun e w' => e = .returned (.int .i64 1) ∧ w' = w := by
  go_enter Tryz.func77, Tryz.ntmps77
  go_wp2
  go_ret
  exact ⟨rfl, rfl⟩
theorem nat_root {b : Nat} {I : Int} {W : World} (h : NAt b (rootL I) W) : W.cell? ⟨b, 0, none⟩ = some (.int .i64 2) ∧ W.cell? ⟨b, 1, none⟩ = some (.int .i64 2) ∧ W.cell? ⟨b, 2, none⟩ = some (.int .i64 1024) ∧ W.cell? ⟨b, 3, none⟩ = some (.int .i64 (2 + I)) ∧ W.cell? ⟨b, 11, none⟩ = some (.int .i64 0) ∧ W.cell? ⟨b, 12, none⟩ = some (.int .i64 0) :=
  ⟨h.cell 0 (by simp [rootL]), h.cell 1 (by simp [rootL]), h.cell 2 (by simp [rootL]), h.cell 3 (by simp [rootL]), h.cell 11 (by simp [rootL]), h.cell 12 (by simp [rootL])⟩
set_option maxRecDepth 100000 in
set_option maxHeartbeats 1000000 in
theorem lead_zero (w : World) (d g n : Nat) (G I D : Int) (hg : good G I D = true) (xs : List Int) (h : DkAt d g n G I D xs w) :
    Calls Tryz.prog 78 #[.pointer (some ⟨d, 0, none⟩), inoV (rootL I), .int .i64 0] w fun e w' => e = .returned (.int .i64 (2 + I)) ∧ Below w.heap.size w w' := by
  have hB0 : Below w.heap.size w (w.alloc (.cells (Iy (rootL I)).toArray 55)) := (Below.refl _ w).alloc (Nat.le_refl _) _
  have HB0 := Hid.mk hB0
  obtain ⟨c0, c1, c2, c3, c4, c5⟩ := nat_root (NAt.new w (rootL I))
  have HC : Hid (∀ W : World, DkAt d g n G I D xs W → Calls Tryz.prog 43 #[.pointer (some ⟨d, 0, none⟩), .int .i64 (2 + I)] W fun e w' => e = .returned (.bool true) ∧ Below W.heap.size W w') := Hid.mk (fun W hd => by
    have h := ddata_any W d g n G I D xs hd (2 + I)
    rwa [(do_root hg).1] at h)
  have HD := Hid.mk (h.new hB0)
  clear h hg hB0
  go_enter Tryz.func78, Tryz.ntmps78
  go_wp2_with (first
    | (refine Din.wpL_box (.tmp 1) rfl rfl (rootL I) rfl ?_)
    | (go_at_call 94; refine (place_zero _).mono ?_; rintro e w1 ⟨rfl, hw⟩; subst w1)
    | (go_at_call 43; refine (HC.out _ HD.out).mono ?_; rintro e w2 ⟨rfl, hB⟩; have HB2 := Hid.mk (HB0.out.trans (hB.mono (by simp))); clear hB))
  go_ret
  exact ⟨rfl, HB2.out⟩
/-- What Entries tells of the root's block. -/
def freeL : List (Int × ByteArray) := dotsL ++ List.replicate 30 (0, Ent.noS)
theorem ents_dots : Ent.blkE (blockL dotsL) = freeL := by decide +kernel
end Mk
end Go.Proofs.YtejnmpnioeamhaaGreat
