/-
  Of an empty file system none of the points 3 to 5 is so.
-/
import Derived.Test.YtejnmpnioeamhaaGreatWhPtr
namespace Go.Proofs.YtejnmpnioeamhaaGreat
open Go Go.Proofs Go.RowKit Go.Shelf
namespace Mk
open Sup (superL headL maskL nI nD bD)
open Din (inoL fineL inoV NAt)
open Ent (blockL okB EAt Ey entV noS noE)
/-- The data blocks' number. -/
def blkN (G D : Int) : Nat := (G * D).toNat
theorem blk_is {G I D : Int} (hg : good G I D = true) : blkI G I D = (blkN G D : Int) ∧ 8 ≤ blkN G D ∧ blkN G D ≤ 8000 := by
  have hb := good_iff.1 hg
  have h1 := mul_fits (a := G) (A := 8) (b := D) (B := 1000) (by omega) (by omega) (by omega) (by omega)
  have h2 : 1 * D ≤ G * D := Int.mul_le_mul_of_nonneg_right (by omega) (by omega)
  unfold blkI blkN
  rw [if_pos hg]
  omega
/-- Bit 0 of the first head's data is on. -/
theorem first_on (G I D : Int) (hg : good G I D = true) : getI (maskL ((headL ((0 : Nat) : Int) I D (onL 0) (onL 0)).drop 64) (nD D) (bD D)) 0 = true := by
  have hb := good_iff.1 hg
  have e : (headL ((0 : Nat) : Int) I D (onL 0) (onL 0)).drop 64 = maskL (onL 0) (nD D) 960 := by
    unfold headL
    rw [List.drop_append, List.drop_of_length_le (by simp [leL_length, zeros_length, Sup.maskL_length])]
    simp [leL_length, zeros_length, Sup.maskL_length]
  have h8 : 8 ≤ nD D := by unfold nD; omega
  have h1 : 1 ≤ bD D := by unfold bD; omega
  unfold getI
  rw [e, show (0 : Int).toNat = 0 from rfl, Sup.getN_mask _ _ _ _ (Sup.maskL_bound _ _ _ (onL_bound 0)) (by omega), Sup.getN_mask _ _ _ _ (onL_bound 0) (by omega)]
  have h3 : getN (onL 0) 0 = true := by decide
  rw [h3, decide_eq_true (show 0 < nD D by omega)]
  rfl
/-- What least holds in memory. -/
structure LsAt (w : World) (d g n : Nat) (G I D : Int) (xs : List Int) (go gs nb : Nat) (W : World) : Prop where
  dk : DkAt d g n G I D xs W
  all : LAt W (some ⟨go, 0, none⟩) 1 [2 + I]
  seen : W.heap[gs]? = some (.cells (fals nb).toArray 4 (0, 0))
  below : Below w.heap.size w W
theorem LsAt.new {w W W' : World} {d g n : Nat} {G I D : Int} {xs : List Int} {go gs nb : Nat} (h : LsAt w d g n G I D xs go gs nb W) (hB : Below W.heap.size W W') : LsAt w d g n G I D xs go gs nb W' :=
  ⟨h.dk.new hB, h.all.below hB (h.all.lt (by omega)), (hB.block _ (lt_of_block h.seen)).trans h.seen, h.below.trans (hB.mono h.below.size)⟩
theorem LsAt.drew {w W : World} {d g n : Nat} {G I D : Int} {xs : List Int} {go gs nb : Nat} (h : LsAt w d g n G I D xs go gs nb W) : LsAt w d g n G I D xs go gs nb W.drew := ⟨⟨h.dk.dk, h.dk.row⟩, h.all, h.seen, h.below.drew⟩
theorem LsAt.cells {w W : World} {d g n : Nat} {G I D : Int} {xs : List Int} {go gs nb : Nat} (h : LsAt w d g n G I D xs go gs nb W) : W.cell? ⟨d, 0, none⟩ = some (.slice (some ⟨g, 0, none⟩) n n) ∧ W.cell? ⟨d, 1, none⟩ = some (.int .i64 G) ∧ W.cell? ⟨d, 2, none⟩ = some (.int .i64 I) ∧ W.cell? ⟨d, 3, none⟩ = some (.int .i64 D) ∧ W.cell? ⟨go, 0, none⟩ = some (.int .i64 (2 + I)) := by
  obtain ⟨k0, k1, k2, k3⟩ := h.dk.d4
  obtain ⟨a, e, -, hc⟩ := h.all.2 (by omega)
  cases e
  exact ⟨k0, k1, k2, k3, hc 0 (by omega)⟩
set_option maxRecDepth 100000 in
set_option maxHeartbeats 8000000 in
theorem least_root (w : World) (d g n : Nat) (G I D : Int) (hg : good G I D = true) (xs : List Int) (h : DkAt d g n G I D xs w) (hx : ImgIs G I D xs) (hn : n = totN G I D * 1024) (go co : Nat) (hl : LAt w (some ⟨go, 0, none⟩) 1 [2 + I]) :
    Calls Tryz.prog 21 #[.pointer (some ⟨d, 0, none⟩), .slice (some ⟨go, 0, none⟩) 1 co] w fun e w' => e = .returned (.int .i64 0) ∧ Below w.heap.size w w' := by
  obtain ⟨b1, b2, b3⟩ := blk_is hg
  obtain ⟨-, t2, t3, t4⟩ := tot_is hg
  rw [← hn] at t3
  have hb := good_iff.1 hg
  have hn2 : 11264 ≤ n := by omega
  have HBL : Hid (∀ W : World, Calls Tryz.prog 45 #[geo G I D] W fun e w' => e = .returned (.int .i64 (blkN G D : Int)) ∧ Below W.heap.size W w') := Hid.mk (fun W => by
    have h := rblocks_any W G I D
    rwa [b1] at h)
  have HDO : Hid (∀ W : World, Calls Tryz.prog 46 #[geo G I D, .int .i64 (2 + I)] W fun e w' => e = .returned (.tuple #[.int .i64 0, .bool true]) ∧ Below W.heap.size W w') := Hid.mk (fun W => by
    have h := rdataof_any W G I D (2 + I)
    rwa [(do_root hg).1, (do_root hg).2] at h)
  have HHD : Hid (∀ W : World, Calls Tryz.prog 47 #[geo G I D, .int .i64 0] W fun e w' => e = .returned (.tuple #[.int .i64 1, .bool true]) ∧ Below W.heap.size W w') := Hid.mk (fun W => by
    have h := rhead_any W G I D 0
    have h2 := hd_at hg 0 (by omega)
    rw [show ((0 : Nat) : Int) = 0 from rfl] at h2
    rw [h2.1, h2.2] at h
    simpa using h)
  have HHB : Hid (∀ W : World, DkAt d g n G I D xs W → Calls Tryz.prog 48 #[geo G I D, .slice (some ⟨g, 1024, none⟩) 1024 (n - 1024)] W fun e w' => ∃ a1 c1 a2 c2, e = .returned (.tuple #[.slice (some a1) 8 c1, .slice (some a2) (bD D) c2]) ∧ BAt w' (some a2) (bD D) (maskL ((headL ((0 : Nat) : Int) I D (onL 0) (onL 0)).drop 64) (nD D) (bD D)) ∧ Below W.heap.size W w') := Hid.mk (fun W hd => by
    have hba := hd.row.bat 1024 1024 (by rw [hx.len, ← hn]; omega)
    have hp := hx.head 0 (by omega)
    rw [show (1 + 0 * perN I D) * 1024 = 1024 by omega] at hp
    unfold piece at hp
    rw [hp] at hba
    refine (Sup.hbits_yes W G I D hg ⟨g, 1024, none⟩ (n - 1024) _ hba (Sup.headL_bound _ _ _ _ _ (onL_bound 0) (onL_bound 0)) (by omega)).mono ?_
    rintro e w' ⟨a1, c1, a2, c2, rfl, -, h2, h3⟩
    exact ⟨a1, c1, a2, c2, rfl, h2, h3⟩)
  have HGT : Hid (∀ (W : World) (a2 : Addr) (c2 : Nat), BAt W (some a2) (bD D) (maskL ((headL ((0 : Nat) : Int) I D (onL 0) (onL 0)).drop 64) (nD D) (bD D)) → Calls Tryz.prog 50 #[.slice (some a2) (bD D) c2, .int .i64 0] W fun e w' => e = .returned (.bool true) ∧ w' = W) := Hid.mk (fun W a2 c2 hba => by
    have h := Sup.refget_any W (some a2) (bD D) c2 _ hba (Sup.maskL_bound _ _ _ (drop_bound _ (Sup.headL_bound _ _ _ _ _ (onL_bound 0) (onL_bound 0)) 64)) 0 (by unfold I64; omega)
    rwa [first_on G I D hg] at h)
  obtain ⟨nb, hnb⟩ : ∃ nb, nb = blkN G D := ⟨_, rfl⟩
  rw [← hnb] at HBL b2 b3
  obtain ⟨hD8, hD9⟩ : 8 ≤ D ∧ D ≤ 1000 := by omega
  obtain ⟨k0, k1, k2, k3⟩ := h.d4
  have HDK := Hid.mk h
  have HAL := Hid.mk hl
  generalize bD D = bd at *
  clear h hx hg hn hl b1 t2 t4 hb hnb
  go_enter Tryz.func21, Tryz.ntmps21
  go_wp2_with (first
    | (go_at_call 45; refine (HBL.out _).mono ?_; rintro e w1 ⟨rfl, hB⟩; have HM := Hid.mk (makeb_run w1 nb (by omega)); have hW : Below w1.heap.size w1 (w1.alloc (.cells (fals nb).toArray 4)) := (Below.refl _ w1).alloc (Nat.le_refl _) _; have HLS : Hid (LsAt w d g n G I D xs go w1.heap.size nb (w1.alloc (.cells (fals nb).toArray 4))) := Hid.mk ⟨(HDK.out.new hB).new hW, (HAL.out.below hB (HAL.out.lt (by omega))).below hW (Nat.lt_of_lt_of_le (HAL.out.lt (by omega)) hB.size), blk_new w1 _, hB.trans (hW.mono hB.size)⟩; have HGE : Hid (w.heap.size ≤ w1.heap.size) := Hid.mk hB.size; clear hB hW)
    | (at_make; refine wpList_make_known rfl _ _ 64 rfl _ _ _ _ rfl rfl HM.out ?_))
  generalize w1.heap.size = gs at *
  clear HM HDK HAL k0 k1 k2 k3 HBL
  go_loopw [7, 8, 9] (fun u t i wr => (i = .int .i64 0 ∧ u = .bool false ∧ t = .bool false ∧ LsAt w d g n G I D xs go gs nb wr) ∨ (i = .int .i64 1 ∧ u = .bool false ∧ t = .bool false ∧ Below w.heap.size w wr)) (fun _ _ i _ => 1 - (intOf i).toNat)
  case atStart => exact .inl ⟨rfl, rfl, rfl, HLS.out⟩
  case round =>
    rcases hrel with ⟨rfl, rfl, rfl, hls⟩ | ⟨rfl, rfl, rfl, hbl⟩
    · have HL1 := Hid.mk hls
      clear hls HLS
      go_wp2_with fail
      have HK : Hid (∀ W', Below wr.heap.size wr.drew W' → LsAt w d g n G I D xs go gs nb W') := Hid.mk (fun W' hB => LsAt.new (W := wr.drew) HL1.out.drew hB)
      refine wp_region_held_drew (S := LsAt w d g n G I D xs go gs nb) (by kernel_rfl) HL1.out.drew (fun hH => ?_)
      change wpAnyH Tryz.prog Region.Mode.any _ _ _ 14 _ _ _
      refine takeH 0 31 (.pointer (some ⟨d, 0, none⟩)) rfl (by kernel_rfl) (by kernel_rfl) (by kernel_rfl) (by kernel_rfl) (fun _ _ _ h => h) (by kernel_rfl) (fun w hw => by kernel_rfl) hH ?_
      simp only [List.setIfInBounds_toArray, List.set_cons_zero, List.set_cons_succ]
      refine takeH 1 32 (.pointer (some ⟨d, 0, none⟩)) rfl (by kernel_rfl) (by kernel_rfl) (by kernel_rfl) (by kernel_rfl) (fun _ _ _ h => h) (by kernel_rfl) (fun w hw => by kernel_rfl) hH ?_
      simp only [List.setIfInBounds_toArray, List.set_cons_zero, List.set_cons_succ]
      refine takeH 2 33 (.pointer (some ⟨d, 1, none⟩)) rfl (by kernel_rfl) (by kernel_rfl) (by kernel_rfl) (by kernel_rfl) (fun _ _ _ h => h) (by kernel_rfl) (fun w hw => by (obtain ⟨k0, k1, k2, k3, k4⟩ := hw.cells; clear hw; go_simp)) hH ?_
      simp only [List.setIfInBounds_toArray, List.set_cons_zero, List.set_cons_succ]
      refine takeH 3 34 (geo G I D) rfl (by kernel_rfl) (by kernel_rfl) (by kernel_rfl) (by kernel_rfl) (fun _ _ _ h => h) (by kernel_rfl) (fun w hw => by (obtain ⟨k0, k1, k2, k3, k4⟩ := hw.cells; clear hw; go_simp)) hH ?_
      simp only [List.setIfInBounds_toArray, List.set_cons_zero, List.set_cons_succ]
      refine takeH 4 35 (.slice (some ⟨go, 0, none⟩) 1 co) rfl (by kernel_rfl) (by kernel_rfl) (by kernel_rfl) (by kernel_rfl) (fun _ _ _ h => h) (by kernel_rfl) (fun w hw => by kernel_rfl) hH ?_
      simp only [List.setIfInBounds_toArray, List.set_cons_zero, List.set_cons_succ]
      refine takeH 5 36 (.int .i64 0) rfl (by kernel_rfl) (by kernel_rfl) (by kernel_rfl) (by kernel_rfl) (fun _ _ _ h => h) (by kernel_rfl) (fun w hw => by kernel_rfl) hH ?_
      simp only [List.setIfInBounds_toArray, List.set_cons_zero, List.set_cons_succ]
      refine takeH 6 37 (.pointer (some ⟨go, 0, none⟩)) rfl (by kernel_rfl) (by kernel_rfl) (by kernel_rfl) (by kernel_rfl) (fun _ _ _ h => h) (by kernel_rfl) (fun w hw => by (obtain ⟨k0, k1, k2, k3, k4⟩ := hw.cells; clear hw; go_simp)) hH ?_
      simp only [List.setIfInBounds_toArray, List.set_cons_zero, List.set_cons_succ]
      refine takeH 7 38 (.int .i64 (2 + I)) rfl (by kernel_rfl) (by kernel_rfl) (by kernel_rfl) (by kernel_rfl) (fun _ _ _ h => h) (by kernel_rfl) (fun w hw => by (obtain ⟨k0, k1, k2, k3, k4⟩ := hw.cells; clear hw; go_simp)) hH ?_
      simp only [List.setIfInBounds_toArray, List.set_cons_zero, List.set_cons_succ]
      refine stepH_call 8 39 rfl (by kernel_rfl) (by kernel_rfl) (by kernel_rfl) 46 #[.tmp 34, .tmp 38] #[23, 3] (by kernel_rfl) (enters_of Tryz.func46 (by kernel_rfl) rfl) #[geo G I D, .int .i64 (2 + I)] (by kernel_rfl) (HDO.out _) ?_
      rintro e w2 ⟨rfl, hB⟩
      have HL2 := Hid.mk (HK.out w2 hB)
      clear HK hH hB HL1
      refine ⟨_, rfl, HL2.out, ?_⟩
      simp only [List.setIfInBounds_toArray, List.set_cons_zero, List.set_cons_succ]
      refine takeH 9 30 (.tuple #[.int .i64 0, .bool true]) rfl (by kernel_rfl) (by kernel_rfl) (by kernel_rfl) (by kernel_rfl) (fun _ _ _ h => h) (by kernel_rfl) (fun w hw => by kernel_rfl) HL2.out ?_
      simp only [List.setIfInBounds_toArray, List.set_cons_zero, List.set_cons_succ]
      refine takeH 10 40 (.int .i64 0) rfl (by kernel_rfl) (by kernel_rfl) (by kernel_rfl) (by kernel_rfl) (fun _ _ _ h => h) (by kernel_rfl) (fun w hw => by kernel_rfl) HL2.out ?_
      simp only [List.setIfInBounds_toArray, List.set_cons_zero, List.set_cons_succ]
      refine takeH 11 41 (.bool true) rfl (by kernel_rfl) (by kernel_rfl) (by kernel_rfl) (by kernel_rfl) (fun _ _ _ h => h) (by kernel_rfl) (fun w hw => by kernel_rfl) HL2.out ?_
      simp only [List.setIfInBounds_toArray, List.set_cons_zero, List.set_cons_succ]
      refine takeH 12 10 (.int .i64 0) rfl (by kernel_rfl) (by kernel_rfl) (by kernel_rfl) (by kernel_rfl) (fun _ _ _ h => h) (by kernel_rfl) (fun w hw => by kernel_rfl) HL2.out ?_
      simp only [List.setIfInBounds_toArray, List.set_cons_zero, List.set_cons_succ]
      refine takeH 13 11 (.bool true) rfl (by kernel_rfl) (by kernel_rfl) (by kernel_rfl) (by kernel_rfl) (fun _ _ _ h => h) (by kernel_rfl) (fun w hw => by kernel_rfl) HL2.out ?_
      simp only [List.setIfInBounds_toArray, List.set_cons_zero, List.set_cons_succ]
      refine wpAnyH_done (by kernel_rfl) ?_ _
      go_wp2_with fail
      have HK : Hid (∀ W', Below w2.heap.size w2.drew W' → LsAt w d g n G I D xs go gs nb W') := Hid.mk (fun W' hB => LsAt.new (W := w2.drew) HL2.out.drew hB)
      refine wp_region_held_drew (S := LsAt w d g n G I D xs go gs nb) (by kernel_rfl) HL2.out.drew (fun hH => ?_)
      change wpAnyH Tryz.prog Region.Mode.any _ _ _ 17 _ _ _
      refine takeH 0 45 (.pointer (some ⟨d, 0, none⟩)) rfl (by kernel_rfl) (by kernel_rfl) (by kernel_rfl) (by kernel_rfl) (fun _ _ _ h => h) (by kernel_rfl) (fun w hw => by kernel_rfl) hH ?_
      simp only [List.setIfInBounds_toArray, List.set_cons_zero, List.set_cons_succ]
      refine takeH 1 46 (.pointer (some ⟨d, 0, none⟩)) rfl (by kernel_rfl) (by kernel_rfl) (by kernel_rfl) (by kernel_rfl) (fun _ _ _ h => h) (by kernel_rfl) (fun w hw => by kernel_rfl) hH ?_
      simp only [List.setIfInBounds_toArray, List.set_cons_zero, List.set_cons_succ]
      refine takeH 2 47 (.pointer (some ⟨d, 1, none⟩)) rfl (by kernel_rfl) (by kernel_rfl) (by kernel_rfl) (by kernel_rfl) (fun _ _ _ h => h) (by kernel_rfl) (fun w hw => by (obtain ⟨k0, k1, k2, k3, k4⟩ := hw.cells; clear hw; go_simp)) hH ?_
      simp only [List.setIfInBounds_toArray, List.set_cons_zero, List.set_cons_succ]
      refine takeH 3 48 (geo G I D) rfl (by kernel_rfl) (by kernel_rfl) (by kernel_rfl) (by kernel_rfl) (fun _ _ _ h => h) (by kernel_rfl) (fun w hw => by (obtain ⟨k0, k1, k2, k3, k4⟩ := hw.cells; clear hw; go_simp)) hH ?_
      simp only [List.setIfInBounds_toArray, List.set_cons_zero, List.set_cons_succ]
      refine takeH 4 49 (.int .i64 0) rfl (by kernel_rfl) (by kernel_rfl) (by kernel_rfl) (by kernel_rfl) (fun _ _ _ h => h) (by kernel_rfl) (fun w hw => by kernel_rfl) hH ?_
      simp only [List.setIfInBounds_toArray, List.set_cons_zero, List.set_cons_succ]
      refine takeH 5 50 (.pointer (some ⟨d, 0, none⟩)) rfl (by kernel_rfl) (by kernel_rfl) (by kernel_rfl) (by kernel_rfl) (fun _ _ _ h => h) (by kernel_rfl) (fun w hw => by kernel_rfl) hH ?_
      simp only [List.setIfInBounds_toArray, List.set_cons_zero, List.set_cons_succ]
      refine takeH 6 51 (.pointer (some ⟨d, 0, none⟩)) rfl (by kernel_rfl) (by kernel_rfl) (by kernel_rfl) (by kernel_rfl) (fun _ _ _ h => h) (by kernel_rfl) (fun w hw => by kernel_rfl) hH ?_
      simp only [List.setIfInBounds_toArray, List.set_cons_zero, List.set_cons_succ]
      refine takeH 7 52 (.pointer (some ⟨d, 1, none⟩)) rfl (by kernel_rfl) (by kernel_rfl) (by kernel_rfl) (by kernel_rfl) (fun _ _ _ h => h) (by kernel_rfl) (fun w hw => by (obtain ⟨k0, k1, k2, k3, k4⟩ := hw.cells; clear hw; go_simp)) hH ?_
      simp only [List.setIfInBounds_toArray, List.set_cons_zero, List.set_cons_succ]
      refine takeH 8 53 (.pointer (some ⟨d, 3, none⟩)) rfl (by kernel_rfl) (by kernel_rfl) (by kernel_rfl) (by kernel_rfl) (fun _ _ _ h => h) (by kernel_rfl) (fun w hw => by (obtain ⟨k0, k1, k2, k3, k4⟩ := hw.cells; clear hw; go_simp)) hH ?_
      simp only [List.setIfInBounds_toArray, List.set_cons_zero, List.set_cons_succ]
      refine takeH 9 54 (.int .i64 D) rfl (by kernel_rfl) (by kernel_rfl) (by kernel_rfl) (by kernel_rfl) (fun _ _ _ h => h) (by kernel_rfl) (fun w hw => by (obtain ⟨k0, k1, k2, k3, k4⟩ := hw.cells; clear hw; go_simp)) hH ?_
      simp only [List.setIfInBounds_toArray, List.set_cons_zero, List.set_cons_succ]
      refine takeH 10 55 (.int .i64 0) rfl (by kernel_rfl) (by kernel_rfl) (by kernel_rfl) (by kernel_rfl) (fun _ _ _ h => h) (by kernel_rfl) (fun w hw => by (clear hw; have hD0 : ¬ D = 0 := by omega); go_simp; rfl) hH ?_
      simp only [List.setIfInBounds_toArray, List.set_cons_zero, List.set_cons_succ]
      refine stepH_call 11 56 rfl (by kernel_rfl) (by kernel_rfl) (by kernel_rfl) 47 #[.tmp 48, .tmp 55] #[23, 3] (by kernel_rfl) (enters_of Tryz.func47 (by kernel_rfl) rfl) #[geo G I D, .int .i64 0] (by kernel_rfl) (HHD.out _) ?_
      rintro e w3 ⟨rfl, hB⟩
      have HL3 := Hid.mk (HK.out w3 hB)
      clear HK hH hB HL2
      refine ⟨_, rfl, HL3.out, ?_⟩
      simp only [List.setIfInBounds_toArray, List.set_cons_zero, List.set_cons_succ]
      refine takeH 12 44 (.tuple #[.int .i64 1, .bool true]) rfl (by kernel_rfl) (by kernel_rfl) (by kernel_rfl) (by kernel_rfl) (fun _ _ _ h => h) (by kernel_rfl) (fun w hw => by kernel_rfl) HL3.out ?_
      simp only [List.setIfInBounds_toArray, List.set_cons_zero, List.set_cons_succ]
      refine takeH 13 57 (.int .i64 1) rfl (by kernel_rfl) (by kernel_rfl) (by kernel_rfl) (by kernel_rfl) (fun _ _ _ h => h) (by kernel_rfl) (fun w hw => by kernel_rfl) HL3.out ?_
      simp only [List.setIfInBounds_toArray, List.set_cons_zero, List.set_cons_succ]
      refine takeH 14 58 (.bool true) rfl (by kernel_rfl) (by kernel_rfl) (by kernel_rfl) (by kernel_rfl) (fun _ _ _ h => h) (by kernel_rfl) (fun w hw => by kernel_rfl) HL3.out ?_
      simp only [List.setIfInBounds_toArray, List.set_cons_zero, List.set_cons_succ]
      refine takeH 15 12 (.int .i64 1) rfl (by kernel_rfl) (by kernel_rfl) (by kernel_rfl) (by kernel_rfl) (fun _ _ _ h => h) (by kernel_rfl) (fun w hw => by kernel_rfl) HL3.out ?_
      simp only [List.setIfInBounds_toArray, List.set_cons_zero, List.set_cons_succ]
      refine takeH 16 13 (.bool true) rfl (by kernel_rfl) (by kernel_rfl) (by kernel_rfl) (by kernel_rfl) (fun _ _ _ h => h) (by kernel_rfl) (fun w hw => by kernel_rfl) HL3.out ?_
      simp only [List.setIfInBounds_toArray, List.set_cons_zero, List.set_cons_succ]
      refine wpAnyH_done (by kernel_rfl) ?_ _
      go_wp2_with fail
      have HK : Hid (∀ W', Below w3.heap.size w3.drew W' → LsAt w d g n G I D xs go gs nb W') := Hid.mk (fun W' hB => LsAt.new (W := w3.drew) HL3.out.drew hB)
      refine wp_region_held_drew (S := LsAt w d g n G I D xs go gs nb) (by kernel_rfl) HL3.out.drew (fun hH => ?_)
      change wpAnyH Tryz.prog Region.Mode.any _ _ _ 13 _ _ _
      refine takeH 0 60 (.pointer (some ⟨d, 0, none⟩)) rfl (by kernel_rfl) (by kernel_rfl) (by kernel_rfl) (by kernel_rfl) (fun _ _ _ h => h) (by kernel_rfl) (fun w hw => by kernel_rfl) hH ?_
      simp only [List.setIfInBounds_toArray, List.set_cons_zero, List.set_cons_succ]
      refine takeH 1 61 (.pointer (some ⟨d, 0, none⟩)) rfl (by kernel_rfl) (by kernel_rfl) (by kernel_rfl) (by kernel_rfl) (fun _ _ _ h => h) (by kernel_rfl) (fun w hw => by kernel_rfl) hH ?_
      simp only [List.setIfInBounds_toArray, List.set_cons_zero, List.set_cons_succ]
      refine takeH 2 62 (.pointer (some ⟨d, 1, none⟩)) rfl (by kernel_rfl) (by kernel_rfl) (by kernel_rfl) (by kernel_rfl) (fun _ _ _ h => h) (by kernel_rfl) (fun w hw => by (obtain ⟨k0, k1, k2, k3, k4⟩ := hw.cells; clear hw; go_simp)) hH ?_
      simp only [List.setIfInBounds_toArray, List.set_cons_zero, List.set_cons_succ]
      refine takeH 3 63 (geo G I D) rfl (by kernel_rfl) (by kernel_rfl) (by kernel_rfl) (by kernel_rfl) (fun _ _ _ h => h) (by kernel_rfl) (fun w hw => by (obtain ⟨k0, k1, k2, k3, k4⟩ := hw.cells; clear hw; go_simp)) hH ?_
      simp only [List.setIfInBounds_toArray, List.set_cons_zero, List.set_cons_succ]
      refine takeH 4 64 (.pointer (some ⟨d, 0, none⟩)) rfl (by kernel_rfl) (by kernel_rfl) (by kernel_rfl) (by kernel_rfl) (fun _ _ _ h => h) (by kernel_rfl) (fun w hw => by kernel_rfl) hH ?_
      simp only [List.setIfInBounds_toArray, List.set_cons_zero, List.set_cons_succ]
      refine takeH 5 65 (.int .i64 1) rfl (by kernel_rfl) (by kernel_rfl) (by kernel_rfl) (by kernel_rfl) (fun _ _ _ h => h) (by kernel_rfl) (fun w hw => by kernel_rfl) hH ?_
      simp only [List.setIfInBounds_toArray, List.set_cons_zero, List.set_cons_succ]
      refine stepH_call 6 66 rfl (by kernel_rfl) (by kernel_rfl) (by kernel_rfl) 49 #[.tmp 64, .tmp 65] #[48, 3] (by kernel_rfl) (enters_of Tryz.func49 (by kernel_rfl) rfl) #[.pointer (some ⟨d, 0, none⟩), .int .i64 1] (by kernel_rfl) (dblock_any _ d g n G I D xs hH.dk 1 (by omega) t3) ?_
      rintro e w9 ⟨rfl, hw⟩
      subst w9
      refine ⟨_, rfl, hH, ?_⟩
      simp only [List.setIfInBounds_toArray, List.set_cons_zero, List.set_cons_succ]
      refine stepH_call 7 67 rfl (by kernel_rfl) (by kernel_rfl) (by kernel_rfl) 48 #[.tmp 63, .tmp 66] #[23, 26] (by kernel_rfl) (enters_of Tryz.func48 (by kernel_rfl) rfl) #[geo G I D, .slice (some ⟨g, 1024, none⟩) 1024 (n - 1024)] (by kernel_rfl) (HHB.out _ hH.dk) ?_
      rintro e w4 ⟨a1, c1, a2, c2, rfl, hba, hB⟩
      have HL4 := Hid.mk (HK.out w4 hB)
      have HBA := Hid.mk hba
      clear HK hH hB HL3 hba
      refine ⟨_, rfl, HL4.out, ?_⟩
      simp only [List.setIfInBounds_toArray, List.set_cons_zero, List.set_cons_succ]
      refine takeH 8 59 (.tuple #[.slice (some a1) 8 c1, .slice (some a2) bd c2]) rfl (by kernel_rfl) (by kernel_rfl) (by kernel_rfl) (by kernel_rfl) (fun _ _ _ h => h) (by kernel_rfl) (fun w hw => by kernel_rfl) HL4.out ?_
      simp only [List.setIfInBounds_toArray, List.set_cons_zero, List.set_cons_succ]
      refine takeH 9 68 (.slice (some a1) 8 c1) rfl (by kernel_rfl) (by kernel_rfl) (by kernel_rfl) (by kernel_rfl) (fun _ _ _ h => h) (by kernel_rfl) (fun w hw => by kernel_rfl) HL4.out ?_
      simp only [List.setIfInBounds_toArray, List.set_cons_zero, List.set_cons_succ]
      refine takeH 10 69 (.slice (some a2) bd c2) rfl (by kernel_rfl) (by kernel_rfl) (by kernel_rfl) (by kernel_rfl) (fun _ _ _ h => h) (by kernel_rfl) (fun w hw => by kernel_rfl) HL4.out ?_
      simp only [List.setIfInBounds_toArray, List.set_cons_zero, List.set_cons_succ]
      refine takeH 11 14 (.slice (some a1) 8 c1) rfl (by kernel_rfl) (by kernel_rfl) (by kernel_rfl) (by kernel_rfl) (fun _ _ _ h => h) (by kernel_rfl) (fun w hw => by kernel_rfl) HL4.out ?_
      simp only [List.setIfInBounds_toArray, List.set_cons_zero, List.set_cons_succ]
      refine takeH 12 15 (.slice (some a2) bd c2) rfl (by kernel_rfl) (by kernel_rfl) (by kernel_rfl) (by kernel_rfl) (fun _ _ _ h => h) (by kernel_rfl) (fun w hw => by kernel_rfl) HL4.out ?_
      simp only [List.setIfInBounds_toArray, List.set_cons_zero, List.set_cons_succ]
      refine wpAnyH_done (by kernel_rfl) ?_ _
      obtain ⟨k0, k1, k2, k3, k4⟩ := HL4.out.cells
      have s0 : w4.cell? ⟨gs, 0, none⟩ = some (.bool false) := by
        rw [blk_cell HL4.out.seen, List.getElem?_toArray]
        exact fals_get _ _ (by omega)
      have s1 := blk_free HL4.out.seen 0
      have hD0 : ¬ D = 0 := by omega
      go_wp2_with (go_at_call 50; refine (HGT.out _ a2 c2 HBA.out).mono ?_; rintro e w5 ⟨rfl, hw⟩; subst w5)
      go_roundw
      case rel => exact .inr ⟨by go_num, rfl, rfl, HL4.out.below.setCell (p := ⟨gs, 0, none⟩) HGE.out _⟩
      case measure => simp [intOf]
    · have HB := Hid.mk hbl
      clear hbl HLS
      go_wp2
      go_ret
      exact ⟨rfl, HB.out⟩
end Mk
end Go.Proofs.YtejnmpnioeamhaaGreat
