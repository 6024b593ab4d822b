/-
  wood.closed.
-/
import Derived.Test.YtbahbhaoimabdaaWkPlace
namespace Go.Proofs.Ytbahbhaoimabdaa
open Go Go.Proofs Go.RowKit Go.Shelf

/-- A wood as a value. -/
def woodV (ao : Option Addr) (m cc : Nat) (b : Nat) (go : Option Addr) (gn gc : Nat) (y : Value) : Value := .agg #[.slice ao m cc, .map (some b), .slice go gn gc, y]
theorem zero_int (W : World) : (zeroValue 3).run Try.prog W = .ok (.int .i64 0) W := by kernel_rfl
set_option maxRecDepth 100000 in
set_option maxHeartbeats 4000000 in
/-- Nothing lies at the inode's number. -/
theorem closed_none (w : World) (ao : Option Addr) (m cc b : Nat) (go : Option Addr) (gn gc : Nat) (y : Value) (c : Nat) (f : Lit → Option Value) (hm : MAt w 3 b c f) (ino : Int) (hwf : (Lit.int .i64 ino).wf = true) (hf : f (.int .i64 ino) = none) : Calls Try.prog 42 #[woodV ao m cc b go gn gc y, .int .i64 ino] w fun e w' => e = .returned (.tuple #[.int .i64 0, .bool false]) ∧ Below w.heap.size w w' := by
  unfold woodV
  go_enter Try.func42, Try.ntmps42
  go_upto_region 1 with fail
  obtain ⟨X, hX⟩ : ∃ X, X = w.alloc (.cells #[.slice ao m cc, .map (some b), .slice go gn gc, y] 79) := ⟨_, rfl⟩
  rw [← hX]
  have BX : Hid (Below w.heap.size w X) := Hid.mk (by rw [hX]; exact (Below.refl _ w).alloc (Nat.le_refl _) _)
  have gX : X.heap[w.heap.size]? = some (.cells #[.slice ao m cc, .map (some b), .slice go gn gc, y] 79 (0, 0)) := by rw [hX]; exact blk_new w _
  have x0 := blk_cell gX 0
  have x1 := blk_cell gX 1
  have x2 := blk_cell gX 2
  simp at x0 x1 x2
  have HLK := Hid.mk ((hm.kept (BX.out.block b hm.lt)).look2 keyed3 Try.underlying74 (zero_int X) (Maps.keyOf_int_mk Try.underlying3 hwf))
  rw [hf] at HLK
  simp only [Option.getD, Option.isSome] at HLK
  clear hm hf hX gX
  go_upto_region 2 with (rw [HLK.out]; simp only [Result.andThen_ok])
  go_quiet (fail)
  go_wp2
  refine bodyPost_ret (results_tmp2 rfl _ _ _) rfl ?_
  exact ⟨rfl, blw_drewN BX.out _⟩
set_option maxRecDepth 100000 in
set_option maxHeartbeats 4000000 in
/-- A node lies at place j. -/
theorem closed_some (w : World) (ao : Option Addr) (m cc b : Nat) (gb gn gc : Nat) (y : Value) (c : Nat) (f : Lit → Option Value) (hm : MAt w 3 b c f) (ino : Int) (hwf : (Lit.int .i64 ino).wf = true) (j : Nat) (hf : f (.int .i64 ino) = some (.int .i64 j)) (hj : j < m) (N : Nat → NoV) (hN : NoAt w ao m N) (g : Bool) (hjg : j < gn) (hg : w.cell? ⟨gb, j, none⟩ = some (.bool g)) : Calls Try.prog 42 #[woodV ao m cc b (some ⟨gb, 0, none⟩) gn gc y, .int .i64 ino] w fun e w' => e = .returned (.tuple #[.int .i64 j, .bool (decide ((N j).kind = 2) && !g)]) ∧ Below w.heap.size w w' := by
  obtain ⟨kd, hkd⟩ : ∃ kd, (N j).kind = kd := ⟨_, rfl⟩
  rw [hkd]
  have HKD := Hid.mk hkd
  clear hkd
  by_cases hk : kd = 2
  · subst hk
    cases g with
    | false =>
      rw [show (decide ((2 : Int) = 2) && !false) = true from rfl]
      unfold woodV
      go_enter Try.func42, Try.ntmps42
      go_upto_region 1 with fail
      obtain ⟨X, hX⟩ : ∃ X, X = w.alloc (.cells #[.slice ao m cc, .map (some b), Value.slice (some ⟨gb, 0, none⟩) gn gc, y] 79) := ⟨_, rfl⟩
      rw [← hX]
      have BX : Hid (Below w.heap.size w X) := Hid.mk (by rw [hX]; exact (Below.refl _ w).alloc (Nat.le_refl _) _)
      have gX : X.heap[w.heap.size]? = some (.cells #[.slice ao m cc, .map (some b), Value.slice (some ⟨gb, 0, none⟩) gn gc, y] 79 (0, 0)) := by rw [hX]; exact blk_new w _
      have x0 := blk_cell gX 0
      have x1 := blk_cell gX 1
      have x2 := blk_cell gX 2
      simp at x0 x1 x2
      have HLK := Hid.mk ((hm.kept (BX.out.block b hm.lt)).look2 keyed3 Try.underlying74 (zero_int X) (Maps.keyOf_int_mk Try.underlying3 hwf))
      rw [hf] at HLK
      simp only [Option.getD, Option.isSome] at HLK
      have hgl : gb < w.heap.size := by have := cell_ltA hg; exact this
      have xg := (World.cell?_of_block (w := w) (w' := X) (a := ⟨gb, j, none⟩) (BX.out.block gb hgl)).trans hg
      obtain ⟨e1, o1, rfl, he1, ⟨z0, z1, z2, z3, z4, z5⟩, -, -, -⟩ := no_at (hN.blw BX.out) hj
      have hj1 : (j : Int) < (m : Int) := by omega
      have hj2 : (j : Int) < (gn : Int) := by omega
      have hj0 : (0 : Int) ≤ (j : Int) := by omega
      rw [HKD.out] at z1
      clear hm hf hX gX hN hg he1 hgl z0 z2 z3 z4 z5
      go_upto_region 2 with (rw [HLK.out]; simp only [Result.andThen_ok])
      go_quiet (fail)
      go_wp2
      refine bodyPost_ret (results_tmp2 rfl _ _ _) rfl ?_
      exact ⟨rfl, blw_drewN BX.out _⟩
    | true =>
      rw [show (decide ((2 : Int) = 2) && !true) = false from rfl]
      unfold woodV
      go_enter Try.func42, Try.ntmps42
      go_upto_region 1 with fail
      obtain ⟨X, hX⟩ : ∃ X, X = w.alloc (.cells #[.slice ao m cc, .map (some b), Value.slice (some ⟨gb, 0, none⟩) gn gc, y] 79) := ⟨_, rfl⟩
      rw [← hX]
      have BX : Hid (Below w.heap.size w X) := Hid.mk (by rw [hX]; exact (Below.refl _ w).alloc (Nat.le_refl _) _)
      have gX : X.heap[w.heap.size]? = some (.cells #[.slice ao m cc, .map (some b), Value.slice (some ⟨gb, 0, none⟩) gn gc, y] 79 (0, 0)) := by rw [hX]; exact blk_new w _
      have x0 := blk_cell gX 0
      have x1 := blk_cell gX 1
      have x2 := blk_cell gX 2
      simp at x0 x1 x2
      have HLK := Hid.mk ((hm.kept (BX.out.block b hm.lt)).look2 keyed3 Try.underlying74 (zero_int X) (Maps.keyOf_int_mk Try.underlying3 hwf))
      rw [hf] at HLK
      simp only [Option.getD, Option.isSome] at HLK
      have hgl : gb < w.heap.size := by have := cell_ltA hg; exact this
      have xg := (World.cell?_of_block (w := w) (w' := X) (a := ⟨gb, j, none⟩) (BX.out.block gb hgl)).trans hg
      obtain ⟨e1, o1, rfl, he1, ⟨z0, z1, z2, z3, z4, z5⟩, -, -, -⟩ := no_at (hN.blw BX.out) hj
      have hj1 : (j : Int) < (m : Int) := by omega
      have hj2 : (j : Int) < (gn : Int) := by omega
      have hj0 : (0 : Int) ≤ (j : Int) := by omega
      rw [HKD.out] at z1
      clear hm hf hX gX hN hg he1 hgl z0 z2 z3 z4 z5
      go_upto_region 2 with (rw [HLK.out]; simp only [Result.andThen_ok])
      go_quiet (fail)
      go_wp2
      refine bodyPost_ret (results_tmp2 rfl _ _ _) rfl ?_
      exact ⟨rfl, blw_drewN BX.out _⟩
  · rw [decide_eq_false hk, Bool.false_and]
    have hk2 : (kd == 2) = false := by simpa using hk
    unfold woodV
    go_enter Try.func42, Try.ntmps42
    go_upto_region 1 with fail
    obtain ⟨X, hX⟩ : ∃ X, X = w.alloc (.cells #[.slice ao m cc, .map (some b), Value.slice (some ⟨gb, 0, none⟩) gn gc, y] 79) := ⟨_, rfl⟩
    rw [← hX]
    have BX : Hid (Below w.heap.size w X) := Hid.mk (by rw [hX]; exact (Below.refl _ w).alloc (Nat.le_refl _) _)
    have gX : X.heap[w.heap.size]? = some (.cells #[.slice ao m cc, .map (some b), Value.slice (some ⟨gb, 0, none⟩) gn gc, y] 79 (0, 0)) := by rw [hX]; exact blk_new w _
    have x0 := blk_cell gX 0
    have x1 := blk_cell gX 1
    have x2 := blk_cell gX 2
    simp at x0 x1 x2
    have HLK := Hid.mk ((hm.kept (BX.out.block b hm.lt)).look2 keyed3 Try.underlying74 (zero_int X) (Maps.keyOf_int_mk Try.underlying3 hwf))
    rw [hf] at HLK
    simp only [Option.getD, Option.isSome] at HLK
    have hgl : gb < w.heap.size := by have := cell_ltA hg; exact this
    have xg := (World.cell?_of_block (w := w) (w' := X) (a := ⟨gb, j, none⟩) (BX.out.block gb hgl)).trans hg
    obtain ⟨e1, o1, rfl, he1, ⟨z0, z1, z2, z3, z4, z5⟩, -, -, -⟩ := no_at (hN.blw BX.out) hj
    have hj1 : (j : Int) < (m : Int) := by omega
    have hj2 : (j : Int) < (gn : Int) := by omega
    have hj0 : (0 : Int) ≤ (j : Int) := by omega
    rw [HKD.out] at z1
    clear hm hf hX gX hN hg he1 hgl z0 z2 z3 z4 z5
    go_upto_region 2 with (rw [HLK.out]; simp only [Result.andThen_ok])
    go_quiet (fail)
    go_wp2
    refine bodyPost_ret (results_tmp2 rfl _ _ _) rfl ?_
    exact ⟨rfl, blw_drewN BX.out _⟩
end Go.Proofs.Ytbahbhaoimabdaa
