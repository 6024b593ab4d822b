/-
  read, write and trunc: where something is wrong.
-/
import Derived.Test.YtehaoeclnmelhacGreatLayTop
import Derived.Test.YtehaoeclnmelhacGreatTrDo3
namespace Go.Proofs.YtehaoeclnmelhacGreat
open Go Go.Proofs Go.RowKit Go.Shelf Go.Sort

set_option maxRecDepth 100000 in
set_option maxHeartbeats 4000000 in
theorem read_arg1 (w : World) (t : Nat) (σ : Tr) (Ls : List Lay) (_hT : TrAt w t σ Ls) (kk : Int) (s s2 : ByteArray) (off N : Int) (dp : Option Addr) (dl dc : Nat) (_hs : s.size ≤ 16777216) (h : off < 0) :
    Calls Tryz.prog 26 #[ptrV t, callV kk s s2 off N (.slice dp dl dc)] w fun x w' => x = .returned (errV 1) ∧ Below w.heap.size w w' := by
  unfold callV ptrV at *
  go_enter Tryz.func26, Tryz.ntmps26
  go_wp2_with fail
  obtain ⟨X, hX⟩ : ∃ X, X = (w.alloc (.cells #[.int .i64 kk, .string s, .string s2, .int .i64 off, .int .i64 N, .slice dp dl dc] 34)).alloc (.cells #[.int .i64 0, .slice none 0 0, .int .i64 0, .int .i64 0, .int .i64 0, .slice none 0 0, .int .i64 0] 31) := ⟨_, rfl⟩
  have hXB : Below w.heap.size w X := by rw [hX]; exact ((Below.refl _ w).alloc (Nat.le_refl _) _).alloc (by simp) _
  have hXs : X.heap.size = w.heap.size + 2 := by rw [hX]; simp
  have hX0 : X.heap[w.heap.size]? = some (.cells #[.int .i64 kk, .string s, .string s2, .int .i64 off, .int .i64 N, .slice dp dl dc] 34 (0, 0)) := by rw [hX, Below.heap_alloc _ _ _ (by simp)]; exact blk_new w _
  have hX1 : X.heap[w.heap.size + 1]? = some (.cells #[.int .i64 0, .slice none 0 0, .int .i64 0, .int .i64 0, .int .i64 0, .slice none 0 0, .int .i64 0] 31 (0, 0)) := by
    rw [hX]
    have := blk_new (w.alloc (.cells #[.int .i64 kk, .string s, .string s2, .int .i64 off, .int .i64 N, .slice dp dl dc] 34)) (.cells #[.int .i64 0, .slice none 0 0, .int .i64 0, .int .i64 0, .int .i64 0, .slice none 0 0, .int .i64 0] 31)
    rwa [World.size_alloc] at this
  rw [← hX]
  clear hX
  have f1 := blk_cell hX0 1
  have f3 := blk_cell hX0 3
  have f4 := blk_cell hX0 4
  simp at f1 f3 f4
  have HXB := Hid.mk hXB
  have HXS := Hid.mk hXs
  have HX0 := Hid.mk hX0
  have HX1 := Hid.mk hX1
  clear hXB hXs hX0 hX1
  go_wp2_with (go_at_call 19; refine (failed_any _ _).mono ?_; rintro e' W4 ⟨rfl, hb4⟩; have hbx := (hb4.block _ (lt_of_block HX1.out)).trans HX1.out; have z0 := blk_cell hbx 0; have y0 := blk_free hbx 0; have z1 := blk_cell hbx 1; have y1 := blk_free hbx 1; have z2 := blk_cell hbx 2; have y2 := blk_free hbx 2; have z3 := blk_cell hbx 3; have y3 := blk_free hbx 3; have z4 := blk_cell hbx 4; have y4 := blk_free hbx 4; have z5 := blk_cell hbx 5; have y5 := blk_free hbx 5; have z6 := blk_cell hbx 6; have y6 := blk_free hbx 6; simp at z0 z1 z2 z3 z4 z5 z6; have BXX := Hid.mk hbx; have HB4 := Hid.mk (HXB.out.trans (hb4.mono HXB.out.size)); unfold errV; clear hbx hb4)
  have hb7 := (box7 BXX.out (.int .i64 1) (.slice none 0 0) (.int .i64 0) (.int .i64 0) (.int .i64 0) (.slice none 0 0) (.int .i64 0)).1
  have ho7 := (box7 BXX.out (.int .i64 1) (.slice none 0 0) (.int .i64 0) (.int .i64 0) (.int .i64 0) (.slice none 0 0) (.int .i64 0)).2
  obtain ⟨Y, hY⟩ : ∃ Y, Y = (((((((W4.setCell ⟨w.heap.size + 1, 0, none⟩ (.int .i64 1)).setCell ⟨w.heap.size + 1, 1, none⟩ (.slice none 0 0)).setCell ⟨w.heap.size + 1, 2, none⟩ (.int .i64 0)).setCell ⟨w.heap.size + 1, 3, none⟩ (.int .i64 0)).setCell ⟨w.heap.size + 1, 4, none⟩ (.int .i64 0)).setCell ⟨w.heap.size + 1, 5, none⟩ (.slice none 0 0)).setCell ⟨w.heap.size + 1, 6, none⟩ (.int .i64 0)) := ⟨_, rfl⟩
  rw [← hY] at hb7 ho7 ⊢
  have k0 := blk_cell hb7 0
  have k1 := blk_cell hb7 1
  have k2 := blk_cell hb7 2
  have k3 := blk_cell hb7 3
  have k4 := blk_cell hb7 4
  have k5 := blk_cell hb7 5
  have k6 := blk_cell hb7 6
  simp at k0 k1 k2 k3 k4 k5 k6
  refine bodyPost_ret (v := errV 1) ?_ rfl ?_
  · simp [results, Tryz.results26, go_sem, errV, k0, k1, k2, k3, k4, k5, k6]
  · exact ⟨rfl, ((Only.of_below (S := fun _ => False) HB4.out (fun k h1 h2 => by omega)).trans ho7 (fun i hi => .inr (by omega))).below (Nat.le_refl _) (fun _ h => h.elim)⟩
set_option maxRecDepth 100000 in
set_option maxHeartbeats 4000000 in
theorem read_arg2 (w : World) (t : Nat) (σ : Tr) (Ls : List Lay) (_hT : TrAt w t σ Ls) (kk : Int) (s s2 : ByteArray) (off N : Int) (dp : Option Addr) (dl dc : Nat) (_hs : s.size ≤ 16777216) (h0 : ¬ off < 0) (h : N < 0) :
    Calls Tryz.prog 26 #[ptrV t, callV kk s s2 off N (.slice dp dl dc)] w fun x w' => x = .returned (errV 1) ∧ Below w.heap.size w w' := by
  unfold callV ptrV at *
  go_enter Tryz.func26, Tryz.ntmps26
  go_wp2_with fail
  obtain ⟨X, hX⟩ : ∃ X, X = (w.alloc (.cells #[.int .i64 kk, .string s, .string s2, .int .i64 off, .int .i64 N, .slice dp dl dc] 34)).alloc (.cells #[.int .i64 0, .slice none 0 0, .int .i64 0, .int .i64 0, .int .i64 0, .slice none 0 0, .int .i64 0] 31) := ⟨_, rfl⟩
  have hXB : Below w.heap.size w X := by rw [hX]; exact ((Below.refl _ w).alloc (Nat.le_refl _) _).alloc (by simp) _
  have hXs : X.heap.size = w.heap.size + 2 := by rw [hX]; simp
  have hX0 : X.heap[w.heap.size]? = some (.cells #[.int .i64 kk, .string s, .string s2, .int .i64 off, .int .i64 N, .slice dp dl dc] 34 (0, 0)) := by rw [hX, Below.heap_alloc _ _ _ (by simp)]; exact blk_new w _
  have hX1 : X.heap[w.heap.size + 1]? = some (.cells #[.int .i64 0, .slice none 0 0, .int .i64 0, .int .i64 0, .int .i64 0, .slice none 0 0, .int .i64 0] 31 (0, 0)) := by
    rw [hX]
    have := blk_new (w.alloc (.cells #[.int .i64 kk, .string s, .string s2, .int .i64 off, .int .i64 N, .slice dp dl dc] 34)) (.cells #[.int .i64 0, .slice none 0 0, .int .i64 0, .int .i64 0, .int .i64 0, .slice none 0 0, .int .i64 0] 31)
    rwa [World.size_alloc] at this
  rw [← hX]
  clear hX
  have f1 := blk_cell hX0 1
  have f3 := blk_cell hX0 3
  have f4 := blk_cell hX0 4
  simp at f1 f3 f4
  have HXB := Hid.mk hXB
  have HXS := Hid.mk hXs
  have HX0 := Hid.mk hX0
  have HX1 := Hid.mk hX1
  clear hXB hXs hX0 hX1
  go_wp2_with (go_at_call 19; refine (failed_any _ _).mono ?_; rintro e' W4 ⟨rfl, hb4⟩; have hbx := (hb4.block _ (lt_of_block HX1.out)).trans HX1.out; have z0 := blk_cell hbx 0; have y0 := blk_free hbx 0; have z1 := blk_cell hbx 1; have y1 := blk_free hbx 1; have z2 := blk_cell hbx 2; have y2 := blk_free hbx 2; have z3 := blk_cell hbx 3; have y3 := blk_free hbx 3; have z4 := blk_cell hbx 4; have y4 := blk_free hbx 4; have z5 := blk_cell hbx 5; have y5 := blk_free hbx 5; have z6 := blk_cell hbx 6; have y6 := blk_free hbx 6; simp at z0 z1 z2 z3 z4 z5 z6; have BXX := Hid.mk hbx; have HB4 := Hid.mk (HXB.out.trans (hb4.mono HXB.out.size)); unfold errV; clear hbx hb4)
  have hb7 := (box7 BXX.out (.int .i64 1) (.slice none 0 0) (.int .i64 0) (.int .i64 0) (.int .i64 0) (.slice none 0 0) (.int .i64 0)).1
  have ho7 := (box7 BXX.out (.int .i64 1) (.slice none 0 0) (.int .i64 0) (.int .i64 0) (.int .i64 0) (.slice none 0 0) (.int .i64 0)).2
  obtain ⟨Y, hY⟩ : ∃ Y, Y = (((((((W4.setCell ⟨w.heap.size + 1, 0, none⟩ (.int .i64 1)).setCell ⟨w.heap.size + 1, 1, none⟩ (.slice none 0 0)).setCell ⟨w.heap.size + 1, 2, none⟩ (.int .i64 0)).setCell ⟨w.heap.size + 1, 3, none⟩ (.int .i64 0)).setCell ⟨w.heap.size + 1, 4, none⟩ (.int .i64 0)).setCell ⟨w.heap.size + 1, 5, none⟩ (.slice none 0 0)).setCell ⟨w.heap.size + 1, 6, none⟩ (.int .i64 0)) := ⟨_, rfl⟩
  rw [← hY] at hb7 ho7 ⊢
  have k0 := blk_cell hb7 0
  have k1 := blk_cell hb7 1
  have k2 := blk_cell hb7 2
  have k3 := blk_cell hb7 3
  have k4 := blk_cell hb7 4
  have k5 := blk_cell hb7 5
  have k6 := blk_cell hb7 6
  simp at k0 k1 k2 k3 k4 k5 k6
  refine bodyPost_ret (v := errV 1) ?_ rfl ?_
  · simp [results, Tryz.results26, go_sem, errV, k0, k1, k2, k3, k4, k5, k6]
  · exact ⟨rfl, ((Only.of_below (S := fun _ => False) HB4.out (fun k h1 h2 => by omega)).trans ho7 (fun i hi => .inr (by omega))).below (Nat.le_refl _) (fun _ h => h.elim)⟩
set_option maxRecDepth 100000 in
set_option maxHeartbeats 4000000 in
theorem read_arg3 (w : World) (t : Nat) (σ : Tr) (Ls : List Lay) (_hT : TrAt w t σ Ls) (kk : Int) (s s2 : ByteArray) (off N : Int) (dp : Option Addr) (dl dc : Nat) (_hs : s.size ≤ 16777216) (h0 : ¬ off < 0) (h1 : ¬ N < 0) (h : 8192 < N) :
    Calls Tryz.prog 26 #[ptrV t, callV kk s s2 off N (.slice dp dl dc)] w fun x w' => x = .returned (errV 1) ∧ Below w.heap.size w w' := by
  unfold callV ptrV at *
  go_enter Tryz.func26, Tryz.ntmps26
  go_wp2_with fail
  obtain ⟨X, hX⟩ : ∃ X, X = (w.alloc (.cells #[.int .i64 kk, .string s, .string s2, .int .i64 off, .int .i64 N, .slice dp dl dc] 34)).alloc (.cells #[.int .i64 0, .slice none 0 0, .int .i64 0, .int .i64 0, .int .i64 0, .slice none 0 0, .int .i64 0] 31) := ⟨_, rfl⟩
  have hXB : Below w.heap.size w X := by rw [hX]; exact ((Below.refl _ w).alloc (Nat.le_refl _) _).alloc (by simp) _
  have hXs : X.heap.size = w.heap.size + 2 := by rw [hX]; simp
  have hX0 : X.heap[w.heap.size]? = some (.cells #[.int .i64 kk, .string s, .string s2, .int .i64 off, .int .i64 N, .slice dp dl dc] 34 (0, 0)) := by rw [hX, Below.heap_alloc _ _ _ (by simp)]; exact blk_new w _
  have hX1 : X.heap[w.heap.size + 1]? = some (.cells #[.int .i64 0, .slice none 0 0, .int .i64 0, .int .i64 0, .int .i64 0, .slice none 0 0, .int .i64 0] 31 (0, 0)) := by
    rw [hX]
    have := blk_new (w.alloc (.cells #[.int .i64 kk, .string s, .string s2, .int .i64 off, .int .i64 N, .slice dp dl dc] 34)) (.cells #[.int .i64 0, .slice none 0 0, .int .i64 0, .int .i64 0, .int .i64 0, .slice none 0 0, .int .i64 0] 31)
    rwa [World.size_alloc] at this
  rw [← hX]
  clear hX
  have f1 := blk_cell hX0 1
  have f3 := blk_cell hX0 3
  have f4 := blk_cell hX0 4
  simp at f1 f3 f4
  have HXB := Hid.mk hXB
  have HXS := Hid.mk hXs
  have HX0 := Hid.mk hX0
  have HX1 := Hid.mk hX1
  clear hXB hXs hX0 hX1
  go_wp2_with (go_at_call 19; refine (failed_any _ _).mono ?_; rintro e' W4 ⟨rfl, hb4⟩; have hbx := (hb4.block _ (lt_of_block HX1.out)).trans HX1.out; have z0 := blk_cell hbx 0; have y0 := blk_free hbx 0; have z1 := blk_cell hbx 1; have y1 := blk_free hbx 1; have z2 := blk_cell hbx 2; have y2 := blk_free hbx 2; have z3 := blk_cell hbx 3; have y3 := blk_free hbx 3; have z4 := blk_cell hbx 4; have y4 := blk_free hbx 4; have z5 := blk_cell hbx 5; have y5 := blk_free hbx 5; have z6 := blk_cell hbx 6; have y6 := blk_free hbx 6; simp at z0 z1 z2 z3 z4 z5 z6; have BXX := Hid.mk hbx; have HB4 := Hid.mk (HXB.out.trans (hb4.mono HXB.out.size)); unfold errV; clear hbx hb4)
  have hb7 := (box7 BXX.out (.int .i64 1) (.slice none 0 0) (.int .i64 0) (.int .i64 0) (.int .i64 0) (.slice none 0 0) (.int .i64 0)).1
  have ho7 := (box7 BXX.out (.int .i64 1) (.slice none 0 0) (.int .i64 0) (.int .i64 0) (.int .i64 0) (.slice none 0 0) (.int .i64 0)).2
  obtain ⟨Y, hY⟩ : ∃ Y, Y = (((((((W4.setCell ⟨w.heap.size + 1, 0, none⟩ (.int .i64 1)).setCell ⟨w.heap.size + 1, 1, none⟩ (.slice none 0 0)).setCell ⟨w.heap.size + 1, 2, none⟩ (.int .i64 0)).setCell ⟨w.heap.size + 1, 3, none⟩ (.int .i64 0)).setCell ⟨w.heap.size + 1, 4, none⟩ (.int .i64 0)).setCell ⟨w.heap.size + 1, 5, none⟩ (.slice none 0 0)).setCell ⟨w.heap.size + 1, 6, none⟩ (.int .i64 0)) := ⟨_, rfl⟩
  rw [← hY] at hb7 ho7 ⊢
  have k0 := blk_cell hb7 0
  have k1 := blk_cell hb7 1
  have k2 := blk_cell hb7 2
  have k3 := blk_cell hb7 3
  have k4 := blk_cell hb7 4
  have k5 := blk_cell hb7 5
  have k6 := blk_cell hb7 6
  simp at k0 k1 k2 k3 k4 k5 k6
  refine bodyPost_ret (v := errV 1) ?_ rfl ?_
  · simp [results, Tryz.results26, go_sem, errV, k0, k1, k2, k3, k4, k5, k6]
  · exact ⟨rfl, ((Only.of_below (S := fun _ => False) HB4.out (fun k h1 h2 => by omega)).trans ho7 (fun i hi => .inr (by omega))).below (Nat.le_refl _) (fun _ h => h.elim)⟩
set_option maxRecDepth 100000 in
set_option maxHeartbeats 4000000 in
theorem read_no (w : World) (t : Nat) (σ : Tr) (Ls : List Lay) (hT : TrAt w t σ Ls) (kk : Int) (s s2 : ByteArray) (off N : Int) (dp : Option Addr) (dl dc : Nat) (hs : s.size ≤ 16777216) (h0 : ¬ off < 0) (h1 : ¬ N < 0) (h2 : ¬ 8192 < N) (e : Int) (he : fileE σ.nodes (ofS s) = (none, e)) (hne : e ≠ 0) :
    Calls Tryz.prog 26 #[ptrV t, callV kk s s2 off N (.slice dp dl dc)] w fun x w' => x = .returned (errV e) ∧ Below w.heap.size w w' := by
  have HFI : Hid (∀ W, Below w.heap.size w W → _) := Hid.mk (fun W (hB : Below w.heap.size w W) => file_any W t σ Ls (hT.below rfl hB) s hs)
  rw [he] at HFI
  simp only [optV, ptrV] at HFI
  clear hT hs he
  unfold callV ptrV at *
  go_enter Tryz.func26, Tryz.ntmps26
  go_wp2_with fail
  obtain ⟨X, hX⟩ : ∃ X, X = (w.alloc (.cells #[.int .i64 kk, .string s, .string s2, .int .i64 off, .int .i64 N, .slice dp dl dc] 34)).alloc (.cells #[.int .i64 0, .slice none 0 0, .int .i64 0, .int .i64 0, .int .i64 0, .slice none 0 0, .int .i64 0] 31) := ⟨_, rfl⟩
  have hXB : Below w.heap.size w X := by rw [hX]; exact ((Below.refl _ w).alloc (Nat.le_refl _) _).alloc (by simp) _
  have hXs : X.heap.size = w.heap.size + 2 := by rw [hX]; simp
  have hX0 : X.heap[w.heap.size]? = some (.cells #[.int .i64 kk, .string s, .string s2, .int .i64 off, .int .i64 N, .slice dp dl dc] 34 (0, 0)) := by rw [hX, Below.heap_alloc _ _ _ (by simp)]; exact blk_new w _
  have hX1 : X.heap[w.heap.size + 1]? = some (.cells #[.int .i64 0, .slice none 0 0, .int .i64 0, .int .i64 0, .int .i64 0, .slice none 0 0, .int .i64 0] 31 (0, 0)) := by
    rw [hX]
    have := blk_new (w.alloc (.cells #[.int .i64 kk, .string s, .string s2, .int .i64 off, .int .i64 N, .slice dp dl dc] 34)) (.cells #[.int .i64 0, .slice none 0 0, .int .i64 0, .int .i64 0, .int .i64 0, .slice none 0 0, .int .i64 0] 31)
    rwa [World.size_alloc] at this
  rw [← hX]
  clear hX
  have f1 := blk_cell hX0 1
  have f3 := blk_cell hX0 3
  have f4 := blk_cell hX0 4
  simp at f1 f3 f4
  have HXB := Hid.mk hXB
  have HXS := Hid.mk hXs
  have HX0 := Hid.mk hX0
  have HX1 := Hid.mk hX1
  clear hXB hXs hX0 hX1
  go_wp2_with (first
    | (go_at_call 48; refine (HFI.out X HXB.out).mono ?_; rintro e' W1 ⟨rfl, hB1⟩
       have hx1 := (hB1.block _ (lt_of_block HX1.out)).trans HX1.out
       have HY1 : Hid ((W1.alloc (.cells #[.pointer none] 49)).heap[w.heap.size + 1]? = _) := Hid.mk ((Below.heap_alloc _ _ _ (lt_of_block hx1)).trans hx1)
       have HB1 : Hid (Below w.heap.size w (W1.alloc (.cells #[.pointer none] 49))) := Hid.mk (by have := HXB.out.trans (hB1.mono HXB.out.size); exact this.alloc this.size _)
       clear hB1 hx1 f1 f3 f4)
    | (go_at_call 19; refine (failed_any _ _).mono ?_; rintro e' W4 ⟨rfl, hb4⟩; have hbx := (hb4.block _ (lt_of_block HY1.out)).trans HY1.out; have z0 := blk_cell hbx 0; have y0 := blk_free hbx 0; have z1 := blk_cell hbx 1; have y1 := blk_free hbx 1; have z2 := blk_cell hbx 2; have y2 := blk_free hbx 2; have z3 := blk_cell hbx 3; have y3 := blk_free hbx 3; have z4 := blk_cell hbx 4; have y4 := blk_free hbx 4; have z5 := blk_cell hbx 5; have y5 := blk_free hbx 5; have z6 := blk_cell hbx 6; have y6 := blk_free hbx 6; simp at z0 z1 z2 z3 z4 z5 z6; have BXX := Hid.mk hbx; have HB4 := Hid.mk (HB1.out.trans (hb4.mono HB1.out.size)); unfold errV; clear hbx hb4))
  have hb7 := (box7 BXX.out (.int .i64 e) (.slice none 0 0) (.int .i64 0) (.int .i64 0) (.int .i64 0) (.slice none 0 0) (.int .i64 0)).1
  have ho7 := (box7 BXX.out (.int .i64 e) (.slice none 0 0) (.int .i64 0) (.int .i64 0) (.int .i64 0) (.slice none 0 0) (.int .i64 0)).2
  obtain ⟨Y, hY⟩ : ∃ Y, Y = (((((((W4.setCell ⟨w.heap.size + 1, 0, none⟩ (.int .i64 e)).setCell ⟨w.heap.size + 1, 1, none⟩ (.slice none 0 0)).setCell ⟨w.heap.size + 1, 2, none⟩ (.int .i64 0)).setCell ⟨w.heap.size + 1, 3, none⟩ (.int .i64 0)).setCell ⟨w.heap.size + 1, 4, none⟩ (.int .i64 0)).setCell ⟨w.heap.size + 1, 5, none⟩ (.slice none 0 0)).setCell ⟨w.heap.size + 1, 6, none⟩ (.int .i64 0)) := ⟨_, rfl⟩
  rw [← hY] at hb7 ho7 ⊢
  have k0 := blk_cell hb7 0
  have k1 := blk_cell hb7 1
  have k2 := blk_cell hb7 2
  have k3 := blk_cell hb7 3
  have k4 := blk_cell hb7 4
  have k5 := blk_cell hb7 5
  have k6 := blk_cell hb7 6
  simp at k0 k1 k2 k3 k4 k5 k6
  refine bodyPost_ret (v := errV e) ?_ rfl ?_
  · simp [results, Tryz.results26, go_sem, errV, k0, k1, k2, k3, k4, k5, k6]
  · exact ⟨rfl, ((Only.of_below (S := fun _ => False) HB4.out (fun k h1 h2 => by omega)).trans ho7 (fun i hi => .inr (by omega))).below (Nat.le_refl _) (fun _ h => h.elim)⟩
set_option maxRecDepth 100000 in
set_option maxHeartbeats 4000000 in
theorem write_arg1 (w : World) (t : Nat) (σ : Tr) (Ls : List Lay) (_hT : TrAt w t σ Ls) (kk : Int) (s s2 : ByteArray) (off N : Int) (dp : Option Addr) (dl dc : Nat) (_hs : s.size ≤ 16777216) (h : off < 0) :
    Calls Tryz.prog 27 #[ptrV t, callV kk s s2 off N (.slice dp dl dc)] w fun x w' => x = .returned (errV 1) ∧ Below w.heap.size w w' := by
  unfold callV ptrV at *
  go_enter Tryz.func27, Tryz.ntmps27
  go_wp2_with fail
  obtain ⟨X, hX⟩ : ∃ X, X = (w.alloc (.cells #[.int .i64 kk, .string s, .string s2, .int .i64 off, .int .i64 N, .slice dp dl dc] 34)).alloc (.cells #[.int .i64 0, .slice none 0 0, .int .i64 0, .int .i64 0, .int .i64 0, .slice none 0 0, .int .i64 0] 31) := ⟨_, rfl⟩
  have hXB : Below w.heap.size w X := by rw [hX]; exact ((Below.refl _ w).alloc (Nat.le_refl _) _).alloc (by simp) _
  have hXs : X.heap.size = w.heap.size + 2 := by rw [hX]; simp
  have hX0 : X.heap[w.heap.size]? = some (.cells #[.int .i64 kk, .string s, .string s2, .int .i64 off, .int .i64 N, .slice dp dl dc] 34 (0, 0)) := by rw [hX, Below.heap_alloc _ _ _ (by simp)]; exact blk_new w _
  have hX1 : X.heap[w.heap.size + 1]? = some (.cells #[.int .i64 0, .slice none 0 0, .int .i64 0, .int .i64 0, .int .i64 0, .slice none 0 0, .int .i64 0] 31 (0, 0)) := by
    rw [hX]
    have := blk_new (w.alloc (.cells #[.int .i64 kk, .string s, .string s2, .int .i64 off, .int .i64 N, .slice dp dl dc] 34)) (.cells #[.int .i64 0, .slice none 0 0, .int .i64 0, .int .i64 0, .int .i64 0, .slice none 0 0, .int .i64 0] 31)
    rwa [World.size_alloc] at this
  rw [← hX]
  clear hX
  have f1 := blk_cell hX0 1
  have f3 := blk_cell hX0 3
  have f5 := blk_cell hX0 5
  simp at f1 f3 f5
  have HXB := Hid.mk hXB
  have HXS := Hid.mk hXs
  have HX0 := Hid.mk hX0
  have HX1 := Hid.mk hX1
  clear hXB hXs hX0 hX1
  go_wp2_with (go_at_call 19; refine (failed_any _ _).mono ?_; rintro e' W4 ⟨rfl, hb4⟩; have hbx := (hb4.block _ (lt_of_block HX1.out)).trans HX1.out; have z0 := blk_cell hbx 0; have y0 := blk_free hbx 0; have z1 := blk_cell hbx 1; have y1 := blk_free hbx 1; have z2 := blk_cell hbx 2; have y2 := blk_free hbx 2; have z3 := blk_cell hbx 3; have y3 := blk_free hbx 3; have z4 := blk_cell hbx 4; have y4 := blk_free hbx 4; have z5 := blk_cell hbx 5; have y5 := blk_free hbx 5; have z6 := blk_cell hbx 6; have y6 := blk_free hbx 6; simp at z0 z1 z2 z3 z4 z5 z6; have BXX := Hid.mk hbx; have HB4 := Hid.mk (HXB.out.trans (hb4.mono HXB.out.size)); unfold errV; clear hbx hb4)
  have hb7 := (box7 BXX.out (.int .i64 1) (.slice none 0 0) (.int .i64 0) (.int .i64 0) (.int .i64 0) (.slice none 0 0) (.int .i64 0)).1
  have ho7 := (box7 BXX.out (.int .i64 1) (.slice none 0 0) (.int .i64 0) (.int .i64 0) (.int .i64 0) (.slice none 0 0) (.int .i64 0)).2
  obtain ⟨Y, hY⟩ : ∃ Y, Y = (((((((W4.setCell ⟨w.heap.size + 1, 0, none⟩ (.int .i64 1)).setCell ⟨w.heap.size + 1, 1, none⟩ (.slice none 0 0)).setCell ⟨w.heap.size + 1, 2, none⟩ (.int .i64 0)).setCell ⟨w.heap.size + 1, 3, none⟩ (.int .i64 0)).setCell ⟨w.heap.size + 1, 4, none⟩ (.int .i64 0)).setCell ⟨w.heap.size + 1, 5, none⟩ (.slice none 0 0)).setCell ⟨w.heap.size + 1, 6, none⟩ (.int .i64 0)) := ⟨_, rfl⟩
  rw [← hY] at hb7 ho7 ⊢
  have k0 := blk_cell hb7 0
  have k1 := blk_cell hb7 1
  have k2 := blk_cell hb7 2
  have k3 := blk_cell hb7 3
  have k4 := blk_cell hb7 4
  have k5 := blk_cell hb7 5
  have k6 := blk_cell hb7 6
  simp at k0 k1 k2 k3 k4 k5 k6
  refine bodyPost_ret (v := errV 1) ?_ rfl ?_
  · simp [results, Tryz.results27, go_sem, errV, k0, k1, k2, k3, k4, k5, k6]
  · exact ⟨rfl, ((Only.of_below (S := fun _ => False) HB4.out (fun k h1 h2 => by omega)).trans ho7 (fun i hi => .inr (by omega))).below (Nat.le_refl _) (fun _ h => h.elim)⟩
set_option maxRecDepth 100000 in
set_option maxHeartbeats 4000000 in
theorem write_arg2 (w : World) (t : Nat) (σ : Tr) (Ls : List Lay) (_hT : TrAt w t σ Ls) (kk : Int) (s s2 : ByteArray) (off N : Int) (dp : Option Addr) (dl dc : Nat) (_hs : s.size ≤ 16777216) (h0 : ¬ off < 0) (h : (8192 : Int) < (dl : Int)) :
    Calls Tryz.prog 27 #[ptrV t, callV kk s s2 off N (.slice dp dl dc)] w fun x w' => x = .returned (errV 1) ∧ Below w.heap.size w w' := by
  unfold callV ptrV at *
  go_enter Tryz.func27, Tryz.ntmps27
  go_wp2_with fail
  obtain ⟨X, hX⟩ : ∃ X, X = (w.alloc (.cells #[.int .i64 kk, .string s, .string s2, .int .i64 off, .int .i64 N, .slice dp dl dc] 34)).alloc (.cells #[.int .i64 0, .slice none 0 0, .int .i64 0, .int .i64 0, .int .i64 0, .slice none 0 0, .int .i64 0] 31) := ⟨_, rfl⟩
  have hXB : Below w.heap.size w X := by rw [hX]; exact ((Below.refl _ w).alloc (Nat.le_refl _) _).alloc (by simp) _
  have hXs : X.heap.size = w.heap.size + 2 := by rw [hX]; simp
  have hX0 : X.heap[w.heap.size]? = some (.cells #[.int .i64 kk, .string s, .string s2, .int .i64 off, .int .i64 N, .slice dp dl dc] 34 (0, 0)) := by rw [hX, Below.heap_alloc _ _ _ (by simp)]; exact blk_new w _
  have hX1 : X.heap[w.heap.size + 1]? = some (.cells #[.int .i64 0, .slice none 0 0, .int .i64 0, .int .i64 0, .int .i64 0, .slice none 0 0, .int .i64 0] 31 (0, 0)) := by
    rw [hX]
    have := blk_new (w.alloc (.cells #[.int .i64 kk, .string s, .string s2, .int .i64 off, .int .i64 N, .slice dp dl dc] 34)) (.cells #[.int .i64 0, .slice none 0 0, .int .i64 0, .int .i64 0, .int .i64 0, .slice none 0 0, .int .i64 0] 31)
    rwa [World.size_alloc] at this
  rw [← hX]
  clear hX
  have f1 := blk_cell hX0 1
  have f3 := blk_cell hX0 3
  have f5 := blk_cell hX0 5
  simp at f1 f3 f5
  have HXB := Hid.mk hXB
  have HXS := Hid.mk hXs
  have HX0 := Hid.mk hX0
  have HX1 := Hid.mk hX1
  clear hXB hXs hX0 hX1
  go_wp2_with (go_at_call 19; refine (failed_any _ _).mono ?_; rintro e' W4 ⟨rfl, hb4⟩; have hbx := (hb4.block _ (lt_of_block HX1.out)).trans HX1.out; have z0 := blk_cell hbx 0; have y0 := blk_free hbx 0; have z1 := blk_cell hbx 1; have y1 := blk_free hbx 1; have z2 := blk_cell hbx 2; have y2 := blk_free hbx 2; have z3 := blk_cell hbx 3; have y3 := blk_free hbx 3; have z4 := blk_cell hbx 4; have y4 := blk_free hbx 4; have z5 := blk_cell hbx 5; have y5 := blk_free hbx 5; have z6 := blk_cell hbx 6; have y6 := blk_free hbx 6; simp at z0 z1 z2 z3 z4 z5 z6; have BXX := Hid.mk hbx; have HB4 := Hid.mk (HXB.out.trans (hb4.mono HXB.out.size)); unfold errV; clear hbx hb4)
  have hb7 := (box7 BXX.out (.int .i64 1) (.slice none 0 0) (.int .i64 0) (.int .i64 0) (.int .i64 0) (.slice none 0 0) (.int .i64 0)).1
  have ho7 := (box7 BXX.out (.int .i64 1) (.slice none 0 0) (.int .i64 0) (.int .i64 0) (.int .i64 0) (.slice none 0 0) (.int .i64 0)).2
  obtain ⟨Y, hY⟩ : ∃ Y, Y = (((((((W4.setCell ⟨w.heap.size + 1, 0, none⟩ (.int .i64 1)).setCell ⟨w.heap.size + 1, 1, none⟩ (.slice none 0 0)).setCell ⟨w.heap.size + 1, 2, none⟩ (.int .i64 0)).setCell ⟨w.heap.size + 1, 3, none⟩ (.int .i64 0)).setCell ⟨w.heap.size + 1, 4, none⟩ (.int .i64 0)).setCell ⟨w.heap.size + 1, 5, none⟩ (.slice none 0 0)).setCell ⟨w.heap.size + 1, 6, none⟩ (.int .i64 0)) := ⟨_, rfl⟩
  rw [← hY] at hb7 ho7 ⊢
  have k0 := blk_cell hb7 0
  have k1 := blk_cell hb7 1
  have k2 := blk_cell hb7 2
  have k3 := blk_cell hb7 3
  have k4 := blk_cell hb7 4
  have k5 := blk_cell hb7 5
  have k6 := blk_cell hb7 6
  simp at k0 k1 k2 k3 k4 k5 k6
  refine bodyPost_ret (v := errV 1) ?_ rfl ?_
  · simp [results, Tryz.results27, go_sem, errV, k0, k1, k2, k3, k4, k5, k6]
  · exact ⟨rfl, ((Only.of_below (S := fun _ => False) HB4.out (fun k h1 h2 => by omega)).trans ho7 (fun i hi => .inr (by omega))).below (Nat.le_refl _) (fun _ h => h.elim)⟩
set_option maxRecDepth 100000 in
set_option maxHeartbeats 4000000 in
theorem write_no (w : World) (t : Nat) (σ : Tr) (Ls : List Lay) (hT : TrAt w t σ Ls) (kk : Int) (s s2 : ByteArray) (off N : Int) (dp : Option Addr) (dl dc : Nat) (hs : s.size ≤ 16777216) (h0 : ¬ off < 0) (h1 : ¬ (8192 : Int) < (dl : Int)) (e : Int) (he : fileE σ.nodes (ofS s) = (none, e)) (hne : e ≠ 0) :
    Calls Tryz.prog 27 #[ptrV t, callV kk s s2 off N (.slice dp dl dc)] w fun x w' => x = .returned (errV e) ∧ Below w.heap.size w w' := by
  have HFI : Hid (∀ W, Below w.heap.size w W → _) := Hid.mk (fun W (hB : Below w.heap.size w W) => file_any W t σ Ls (hT.below rfl hB) s hs)
  rw [he] at HFI
  simp only [optV, ptrV] at HFI
  clear hT hs he
  unfold callV ptrV at *
  go_enter Tryz.func27, Tryz.ntmps27
  go_wp2_with fail
  obtain ⟨X, hX⟩ : ∃ X, X = (w.alloc (.cells #[.int .i64 kk, .string s, .string s2, .int .i64 off, .int .i64 N, .slice dp dl dc] 34)).alloc (.cells #[.int .i64 0, .slice none 0 0, .int .i64 0, .int .i64 0, .int .i64 0, .slice none 0 0, .int .i64 0] 31) := ⟨_, rfl⟩
  have hXB : Below w.heap.size w X := by rw [hX]; exact ((Below.refl _ w).alloc (Nat.le_refl _) _).alloc (by simp) _
  have hXs : X.heap.size = w.heap.size + 2 := by rw [hX]; simp
  have hX0 : X.heap[w.heap.size]? = some (.cells #[.int .i64 kk, .string s, .string s2, .int .i64 off, .int .i64 N, .slice dp dl dc] 34 (0, 0)) := by rw [hX, Below.heap_alloc _ _ _ (by simp)]; exact blk_new w _
  have hX1 : X.heap[w.heap.size + 1]? = some (.cells #[.int .i64 0, .slice none 0 0, .int .i64 0, .int .i64 0, .int .i64 0, .slice none 0 0, .int .i64 0] 31 (0, 0)) := by
    rw [hX]
    have := blk_new (w.alloc (.cells #[.int .i64 kk, .string s, .string s2, .int .i64 off, .int .i64 N, .slice dp dl dc] 34)) (.cells #[.int .i64 0, .slice none 0 0, .int .i64 0, .int .i64 0, .int .i64 0, .slice none 0 0, .int .i64 0] 31)
    rwa [World.size_alloc] at this
  rw [← hX]
  clear hX
  have f1 := blk_cell hX0 1
  have f3 := blk_cell hX0 3
  have f5 := blk_cell hX0 5
  simp at f1 f3 f5
  have HXB := Hid.mk hXB
  have HXS := Hid.mk hXs
  have HX0 := Hid.mk hX0
  have HX1 := Hid.mk hX1
  clear hXB hXs hX0 hX1
  go_wp2_with (first
    | (go_at_call 48; refine (HFI.out X HXB.out).mono ?_; rintro e' W1 ⟨rfl, hB1⟩
       have hx1 := (hB1.block _ (lt_of_block HX1.out)).trans HX1.out
       have HY1 : Hid ((W1.alloc (.cells #[.pointer none] 49)).heap[w.heap.size + 1]? = _) := Hid.mk ((Below.heap_alloc _ _ _ (lt_of_block hx1)).trans hx1)
       have HB1 : Hid (Below w.heap.size w (W1.alloc (.cells #[.pointer none] 49))) := Hid.mk (by have := HXB.out.trans (hB1.mono HXB.out.size); exact this.alloc this.size _)
       clear hB1 hx1 f1 f3 f5)
    | (go_at_call 19; refine (failed_any _ _).mono ?_; rintro e' W4 ⟨rfl, hb4⟩; have hbx := (hb4.block _ (lt_of_block HY1.out)).trans HY1.out; have z0 := blk_cell hbx 0; have y0 := blk_free hbx 0; have z1 := blk_cell hbx 1; have y1 := blk_free hbx 1; have z2 := blk_cell hbx 2; have y2 := blk_free hbx 2; have z3 := blk_cell hbx 3; have y3 := blk_free hbx 3; have z4 := blk_cell hbx 4; have y4 := blk_free hbx 4; have z5 := blk_cell hbx 5; have y5 := blk_free hbx 5; have z6 := blk_cell hbx 6; have y6 := blk_free hbx 6; simp at z0 z1 z2 z3 z4 z5 z6; have BXX := Hid.mk hbx; have HB4 := Hid.mk (HB1.out.trans (hb4.mono HB1.out.size)); unfold errV; clear hbx hb4))
  have hb7 := (box7 BXX.out (.int .i64 e) (.slice none 0 0) (.int .i64 0) (.int .i64 0) (.int .i64 0) (.slice none 0 0) (.int .i64 0)).1
  have ho7 := (box7 BXX.out (.int .i64 e) (.slice none 0 0) (.int .i64 0) (.int .i64 0) (.int .i64 0) (.slice none 0 0) (.int .i64 0)).2
  obtain ⟨Y, hY⟩ : ∃ Y, Y = (((((((W4.setCell ⟨w.heap.size + 1, 0, none⟩ (.int .i64 e)).setCell ⟨w.heap.size + 1, 1, none⟩ (.slice none 0 0)).setCell ⟨w.heap.size + 1, 2, none⟩ (.int .i64 0)).setCell ⟨w.heap.size + 1, 3, none⟩ (.int .i64 0)).setCell ⟨w.heap.size + 1, 4, none⟩ (.int .i64 0)).setCell ⟨w.heap.size + 1, 5, none⟩ (.slice none 0 0)).setCell ⟨w.heap.size + 1, 6, none⟩ (.int .i64 0)) := ⟨_, rfl⟩
  rw [← hY] at hb7 ho7 ⊢
  have k0 := blk_cell hb7 0
  have k1 := blk_cell hb7 1
  have k2 := blk_cell hb7 2
  have k3 := blk_cell hb7 3
  have k4 := blk_cell hb7 4
  have k5 := blk_cell hb7 5
  have k6 := blk_cell hb7 6
  simp at k0 k1 k2 k3 k4 k5 k6
  refine bodyPost_ret (v := errV e) ?_ rfl ?_
  · simp [results, Tryz.results27, go_sem, errV, k0, k1, k2, k3, k4, k5, k6]
  · exact ⟨rfl, ((Only.of_below (S := fun _ => False) HB4.out (fun k h1 h2 => by omega)).trans ho7 (fun i hi => .inr (by omega))).below (Nat.le_refl _) (fun _ h => h.elim)⟩
set_option maxRecDepth 100000 in
set_option maxHeartbeats 4000000 in
theorem trunc_arg (w : World) (t : Nat) (σ : Tr) (Ls : List Lay) (_hT : TrAt w t σ Ls) (kk : Int) (s s2 : ByteArray) (off N : Int) (dp : Option Addr) (dl dc : Nat) (_hs : s.size ≤ 16777216) (h : N < 0) :
    Calls Tryz.prog 28 #[ptrV t, callV kk s s2 off N (.slice dp dl dc)] w fun x w' => x = .returned (errV 1) ∧ Below w.heap.size w w' := by
  unfold callV ptrV at *
  go_enter Tryz.func28, Tryz.ntmps28
  go_wp2_with fail
  obtain ⟨X, hX⟩ : ∃ X, X = (w.alloc (.cells #[.int .i64 kk, .string s, .string s2, .int .i64 off, .int .i64 N, .slice dp dl dc] 34)).alloc (.cells #[.int .i64 0, .slice none 0 0, .int .i64 0, .int .i64 0, .int .i64 0, .slice none 0 0, .int .i64 0] 31) := ⟨_, rfl⟩
  have hXB : Below w.heap.size w X := by rw [hX]; exact ((Below.refl _ w).alloc (Nat.le_refl _) _).alloc (by simp) _
  have hXs : X.heap.size = w.heap.size + 2 := by rw [hX]; simp
  have hX0 : X.heap[w.heap.size]? = some (.cells #[.int .i64 kk, .string s, .string s2, .int .i64 off, .int .i64 N, .slice dp dl dc] 34 (0, 0)) := by rw [hX, Below.heap_alloc _ _ _ (by simp)]; exact blk_new w _
  have hX1 : X.heap[w.heap.size + 1]? = some (.cells #[.int .i64 0, .slice none 0 0, .int .i64 0, .int .i64 0, .int .i64 0, .slice none 0 0, .int .i64 0] 31 (0, 0)) := by
    rw [hX]
    have := blk_new (w.alloc (.cells #[.int .i64 kk, .string s, .string s2, .int .i64 off, .int .i64 N, .slice dp dl dc] 34)) (.cells #[.int .i64 0, .slice none 0 0, .int .i64 0, .int .i64 0, .int .i64 0, .slice none 0 0, .int .i64 0] 31)
    rwa [World.size_alloc] at this
  rw [← hX]
  clear hX
  have f1 := blk_cell hX0 1
  have f4 := blk_cell hX0 4
  simp at f1 f4
  have HXB := Hid.mk hXB
  have HXS := Hid.mk hXs
  have HX0 := Hid.mk hX0
  have HX1 := Hid.mk hX1
  clear hXB hXs hX0 hX1
  go_wp2_with (go_at_call 19; refine (failed_any _ _).mono ?_; rintro e' W4 ⟨rfl, hb4⟩; have hbx := (hb4.block _ (lt_of_block HX1.out)).trans HX1.out; have z0 := blk_cell hbx 0; have y0 := blk_free hbx 0; have z1 := blk_cell hbx 1; have y1 := blk_free hbx 1; have z2 := blk_cell hbx 2; have y2 := blk_free hbx 2; have z3 := blk_cell hbx 3; have y3 := blk_free hbx 3; have z4 := blk_cell hbx 4; have y4 := blk_free hbx 4; have z5 := blk_cell hbx 5; have y5 := blk_free hbx 5; have z6 := blk_cell hbx 6; have y6 := blk_free hbx 6; simp at z0 z1 z2 z3 z4 z5 z6; have BXX := Hid.mk hbx; have HB4 := Hid.mk (HXB.out.trans (hb4.mono HXB.out.size)); unfold errV; clear hbx hb4)
  have hb7 := (box7 BXX.out (.int .i64 1) (.slice none 0 0) (.int .i64 0) (.int .i64 0) (.int .i64 0) (.slice none 0 0) (.int .i64 0)).1
  have ho7 := (box7 BXX.out (.int .i64 1) (.slice none 0 0) (.int .i64 0) (.int .i64 0) (.int .i64 0) (.slice none 0 0) (.int .i64 0)).2
  obtain ⟨Y, hY⟩ : ∃ Y, Y = (((((((W4.setCell ⟨w.heap.size + 1, 0, none⟩ (.int .i64 1)).setCell ⟨w.heap.size + 1, 1, none⟩ (.slice none 0 0)).setCell ⟨w.heap.size + 1, 2, none⟩ (.int .i64 0)).setCell ⟨w.heap.size + 1, 3, none⟩ (.int .i64 0)).setCell ⟨w.heap.size + 1, 4, none⟩ (.int .i64 0)).setCell ⟨w.heap.size + 1, 5, none⟩ (.slice none 0 0)).setCell ⟨w.heap.size + 1, 6, none⟩ (.int .i64 0)) := ⟨_, rfl⟩
  rw [← hY] at hb7 ho7 ⊢
  have k0 := blk_cell hb7 0
  have k1 := blk_cell hb7 1
  have k2 := blk_cell hb7 2
  have k3 := blk_cell hb7 3
  have k4 := blk_cell hb7 4
  have k5 := blk_cell hb7 5
  have k6 := blk_cell hb7 6
  simp at k0 k1 k2 k3 k4 k5 k6
  refine bodyPost_ret (v := errV 1) ?_ rfl ?_
  · simp [results, Tryz.results28, go_sem, errV, k0, k1, k2, k3, k4, k5, k6]
  · exact ⟨rfl, ((Only.of_below (S := fun _ => False) HB4.out (fun k h1 h2 => by omega)).trans ho7 (fun i hi => .inr (by omega))).below (Nat.le_refl _) (fun _ h => h.elim)⟩
set_option maxRecDepth 100000 in
set_option maxHeartbeats 4000000 in
theorem trunc_no (w : World) (t : Nat) (σ : Tr) (Ls : List Lay) (hT : TrAt w t σ Ls) (kk : Int) (s s2 : ByteArray) (off N : Int) (dp : Option Addr) (dl dc : Nat) (hs : s.size ≤ 16777216) (h0 : ¬ N < 0) (e : Int) (he : fileE σ.nodes (ofS s) = (none, e)) (hne : e ≠ 0) :
    Calls Tryz.prog 28 #[ptrV t, callV kk s s2 off N (.slice dp dl dc)] w fun x w' => x = .returned (errV e) ∧ Below w.heap.size w w' := by
  have HFI : Hid (∀ W, Below w.heap.size w W → _) := Hid.mk (fun W (hB : Below w.heap.size w W) => file_any W t σ Ls (hT.below rfl hB) s hs)
  rw [he] at HFI
  simp only [optV, ptrV] at HFI
  clear hT hs he
  unfold callV ptrV at *
  go_enter Tryz.func28, Tryz.ntmps28
  go_wp2_with fail
  obtain ⟨X, hX⟩ : ∃ X, X = (w.alloc (.cells #[.int .i64 kk, .string s, .string s2, .int .i64 off, .int .i64 N, .slice dp dl dc] 34)).alloc (.cells #[.int .i64 0, .slice none 0 0, .int .i64 0, .int .i64 0, .int .i64 0, .slice none 0 0, .int .i64 0] 31) := ⟨_, rfl⟩
  have hXB : Below w.heap.size w X := by rw [hX]; exact ((Below.refl _ w).alloc (Nat.le_refl _) _).alloc (by simp) _
  have hXs : X.heap.size = w.heap.size + 2 := by rw [hX]; simp
  have hX0 : X.heap[w.heap.size]? = some (.cells #[.int .i64 kk, .string s, .string s2, .int .i64 off, .int .i64 N, .slice dp dl dc] 34 (0, 0)) := by rw [hX, Below.heap_alloc _ _ _ (by simp)]; exact blk_new w _
  have hX1 : X.heap[w.heap.size + 1]? = some (.cells #[.int .i64 0, .slice none 0 0, .int .i64 0, .int .i64 0, .int .i64 0, .slice none 0 0, .int .i64 0] 31 (0, 0)) := by
    rw [hX]
    have := blk_new (w.alloc (.cells #[.int .i64 kk, .string s, .string s2, .int .i64 off, .int .i64 N, .slice dp dl dc] 34)) (.cells #[.int .i64 0, .slice none 0 0, .int .i64 0, .int .i64 0, .int .i64 0, .slice none 0 0, .int .i64 0] 31)
    rwa [World.size_alloc] at this
  rw [← hX]
  clear hX
  have f1 := blk_cell hX0 1
  have f4 := blk_cell hX0 4
  simp at f1 f4
  have HXB := Hid.mk hXB
  have HXS := Hid.mk hXs
  have HX0 := Hid.mk hX0
  have HX1 := Hid.mk hX1
  clear hXB hXs hX0 hX1
  go_wp2_with (first
    | (go_at_call 48; refine (HFI.out X HXB.out).mono ?_; rintro e' W1 ⟨rfl, hB1⟩
       have HY1 := Hid.mk ((hB1.block _ (lt_of_block HX1.out)).trans HX1.out)
       have HB1 : Hid (Below w.heap.size w W1) := Hid.mk (HXB.out.trans (hB1.mono HXB.out.size))
       clear hB1 f1 f4)
    | (go_at_call 19; refine (failed_any _ _).mono ?_; rintro e' W4 ⟨rfl, hb4⟩; have hbx := (hb4.block _ (lt_of_block HY1.out)).trans HY1.out; have z0 := blk_cell hbx 0; have y0 := blk_free hbx 0; have z1 := blk_cell hbx 1; have y1 := blk_free hbx 1; have z2 := blk_cell hbx 2; have y2 := blk_free hbx 2; have z3 := blk_cell hbx 3; have y3 := blk_free hbx 3; have z4 := blk_cell hbx 4; have y4 := blk_free hbx 4; have z5 := blk_cell hbx 5; have y5 := blk_free hbx 5; have z6 := blk_cell hbx 6; have y6 := blk_free hbx 6; simp at z0 z1 z2 z3 z4 z5 z6; have BXX := Hid.mk hbx; have HB4 := Hid.mk (HB1.out.trans (hb4.mono HB1.out.size)); unfold errV; clear hbx hb4))
  have hb7 := (box7 BXX.out (.int .i64 e) (.slice none 0 0) (.int .i64 0) (.int .i64 0) (.int .i64 0) (.slice none 0 0) (.int .i64 0)).1
  have ho7 := (box7 BXX.out (.int .i64 e) (.slice none 0 0) (.int .i64 0) (.int .i64 0) (.int .i64 0) (.slice none 0 0) (.int .i64 0)).2
  obtain ⟨Y, hY⟩ : ∃ Y, Y = (((((((W4.setCell ⟨w.heap.size + 1, 0, none⟩ (.int .i64 e)).setCell ⟨w.heap.size + 1, 1, none⟩ (.slice none 0 0)).setCell ⟨w.heap.size + 1, 2, none⟩ (.int .i64 0)).setCell ⟨w.heap.size + 1, 3, none⟩ (.int .i64 0)).setCell ⟨w.heap.size + 1, 4, none⟩ (.int .i64 0)).setCell ⟨w.heap.size + 1, 5, none⟩ (.slice none 0 0)).setCell ⟨w.heap.size + 1, 6, none⟩ (.int .i64 0)) := ⟨_, rfl⟩
  rw [← hY] at hb7 ho7 ⊢
  have k0 := blk_cell hb7 0
  have k1 := blk_cell hb7 1
  have k2 := blk_cell hb7 2
  have k3 := blk_cell hb7 3
  have k4 := blk_cell hb7 4
  have k5 := blk_cell hb7 5
  have k6 := blk_cell hb7 6
  simp at k0 k1 k2 k3 k4 k5 k6
  refine bodyPost_ret (v := errV e) ?_ rfl ?_
  · simp [results, Tryz.results28, go_sem, errV, k0, k1, k2, k3, k4, k5, k6]
  · exact ⟨rfl, ((Only.of_below (S := fun _ => False) HB4.out (fun k h1 h2 => by omega)).trans ho7 (fun i hi => .inr (by omega))).below (Nat.le_refl _) (fun _ h => h.elim)⟩
set_option maxRecDepth 100000 in
set_option maxHeartbeats 4000000 in
theorem write_big (w : World) (t : Nat) (σ : Tr) (Ls : List Lay) (hT : TrAt w t σ Ls) (kk : Int) (s s2 : ByteArray) (off N : Int) (dp : Option Addr) (dl dc : Nat) (hs : s.size ≤ 16777216) (h0 : ¬ off < 0) (h1 : ¬ (8192 : Int) < (dl : Int)) (h2 : (67379200 : Int) - (dl : Int) < off) (j : Nat) (he : fileE σ.nodes (ofS s) = (some j, 0)) :
    Calls Tryz.prog 27 #[ptrV t, callV kk s s2 off N (.slice dp dl dc)] w fun x w' => x = .returned (errV 17) ∧ Below w.heap.size w w' := by
  have HFI : Hid (∀ W, Below w.heap.size w W → _) := Hid.mk (fun W (hB : Below w.heap.size w W) => file_any W t σ Ls (hT.below rfl hB) s hs)
  rw [he] at HFI
  simp only [optV, ptrV] at HFI
  have c6 : IntKind.i64.wrap (67379200 - (dl : Int)) = 67379200 - (dl : Int) := by rw [IntKind.wrap_i64]; omega
  clear hT hs he
  unfold callV ptrV at *
  go_enter Tryz.func27, Tryz.ntmps27
  go_wp2_with fail
  obtain ⟨X, hX⟩ : ∃ X, X = (w.alloc (.cells #[.int .i64 kk, .string s, .string s2, .int .i64 off, .int .i64 N, .slice dp dl dc] 34)).alloc (.cells #[.int .i64 0, .slice none 0 0, .int .i64 0, .int .i64 0, .int .i64 0, .slice none 0 0, .int .i64 0] 31) := ⟨_, rfl⟩
  have hXB : Below w.heap.size w X := by rw [hX]; exact ((Below.refl _ w).alloc (Nat.le_refl _) _).alloc (by simp) _
  have hXs : X.heap.size = w.heap.size + 2 := by rw [hX]; simp
  have hX0 : X.heap[w.heap.size]? = some (.cells #[.int .i64 kk, .string s, .string s2, .int .i64 off, .int .i64 N, .slice dp dl dc] 34 (0, 0)) := by rw [hX, Below.heap_alloc _ _ _ (by simp)]; exact blk_new w _
  have hX1 : X.heap[w.heap.size + 1]? = some (.cells #[.int .i64 0, .slice none 0 0, .int .i64 0, .int .i64 0, .int .i64 0, .slice none 0 0, .int .i64 0] 31 (0, 0)) := by
    rw [hX]
    have := blk_new (w.alloc (.cells #[.int .i64 kk, .string s, .string s2, .int .i64 off, .int .i64 N, .slice dp dl dc] 34)) (.cells #[.int .i64 0, .slice none 0 0, .int .i64 0, .int .i64 0, .int .i64 0, .slice none 0 0, .int .i64 0] 31)
    rwa [World.size_alloc] at this
  rw [← hX]
  clear hX
  have f1 := blk_cell hX0 1
  have f3 := blk_cell hX0 3
  have f5 := blk_cell hX0 5
  simp at f1 f3 f5
  have HXB := Hid.mk hXB
  have HXS := Hid.mk hXs
  have HX0 := Hid.mk hX0
  have HX1 := Hid.mk hX1
  clear hXB hXs hX0 hX1
  go_wp2_with (first
    | (go_at_call 48; refine (HFI.out X HXB.out).mono ?_; rintro e' W1 ⟨rfl, hB1⟩
       have hx := (hB1.block _ (lt_of_block HX0.out)).trans HX0.out
       have hy : (W1.alloc (.cells #[.pointer (some ⟨locL Ls j, 0, none⟩)] 49)).heap[w.heap.size]? = _ := (Below.heap_alloc _ _ _ (lt_of_block hx)).trans hx
       have hx1 := (hB1.block _ (lt_of_block HX1.out)).trans HX1.out
       have hy1 : (W1.alloc (.cells #[.pointer (some ⟨locL Ls j, 0, none⟩)] 49)).heap[w.heap.size + 1]? = _ := (Below.heap_alloc _ _ _ (lt_of_block hx1)).trans hx1
       have g3 := blk_cell hy 3
       have g5 := blk_cell hy 5
       simp at g3 g5
       have HY1 := Hid.mk hy1
       have HB1 : Hid (Below w.heap.size w (W1.alloc (.cells #[.pointer (some ⟨locL Ls j, 0, none⟩)] 49))) := Hid.mk (by have := HXB.out.trans (hB1.mono HXB.out.size); exact this.alloc this.size _)
       clear hB1 hx hy hx1 hy1 f1 f3 f5)
    | (go_at_call 19; refine (failed_any _ _).mono ?_; rintro e' W4 ⟨rfl, hb4⟩; have hbx := (hb4.block _ (lt_of_block HY1.out)).trans HY1.out; have z0 := blk_cell hbx 0; have y0 := blk_free hbx 0; have z1 := blk_cell hbx 1; have y1 := blk_free hbx 1; have z2 := blk_cell hbx 2; have y2 := blk_free hbx 2; have z3 := blk_cell hbx 3; have y3 := blk_free hbx 3; have z4 := blk_cell hbx 4; have y4 := blk_free hbx 4; have z5 := blk_cell hbx 5; have y5 := blk_free hbx 5; have z6 := blk_cell hbx 6; have y6 := blk_free hbx 6; simp at z0 z1 z2 z3 z4 z5 z6; have BXX := Hid.mk hbx; have HB4 := Hid.mk (HB1.out.trans (hb4.mono HB1.out.size)); unfold errV; clear hbx hb4))
  have hb7 := (box7 BXX.out (.int .i64 17) (.slice none 0 0) (.int .i64 0) (.int .i64 0) (.int .i64 0) (.slice none 0 0) (.int .i64 0)).1
  have ho7 := (box7 BXX.out (.int .i64 17) (.slice none 0 0) (.int .i64 0) (.int .i64 0) (.int .i64 0) (.slice none 0 0) (.int .i64 0)).2
  obtain ⟨Y, hY⟩ : ∃ Y, Y = (((((((W4.setCell ⟨w.heap.size + 1, 0, none⟩ (.int .i64 17)).setCell ⟨w.heap.size + 1, 1, none⟩ (.slice none 0 0)).setCell ⟨w.heap.size + 1, 2, none⟩ (.int .i64 0)).setCell ⟨w.heap.size + 1, 3, none⟩ (.int .i64 0)).setCell ⟨w.heap.size + 1, 4, none⟩ (.int .i64 0)).setCell ⟨w.heap.size + 1, 5, none⟩ (.slice none 0 0)).setCell ⟨w.heap.size + 1, 6, none⟩ (.int .i64 0)) := ⟨_, rfl⟩
  rw [← hY] at hb7 ho7 ⊢
  have k0 := blk_cell hb7 0
  have k1 := blk_cell hb7 1
  have k2 := blk_cell hb7 2
  have k3 := blk_cell hb7 3
  have k4 := blk_cell hb7 4
  have k5 := blk_cell hb7 5
  have k6 := blk_cell hb7 6
  simp at k0 k1 k2 k3 k4 k5 k6
  refine bodyPost_ret (v := errV 17) ?_ rfl ?_
  · simp [results, Tryz.results27, go_sem, errV, k0, k1, k2, k3, k4, k5, k6]
  · exact ⟨rfl, ((Only.of_below (S := fun _ => False) HB4.out (fun k h1 h2 => by omega)).trans ho7 (fun i hi => .inr (by omega))).below (Nat.le_refl _) (fun _ h => h.elim)⟩
set_option maxRecDepth 100000 in
set_option maxHeartbeats 4000000 in
theorem trunc_big (w : World) (t : Nat) (σ : Tr) (Ls : List Lay) (hT : TrAt w t σ Ls) (kk : Int) (s s2 : ByteArray) (off N : Int) (dp : Option Addr) (dl dc : Nat) (hs : s.size ≤ 16777216) (h0 : ¬ N < 0) (h2 : (67379200 : Int) < N) (j : Nat) (he : fileE σ.nodes (ofS s) = (some j, 0)) :
    Calls Tryz.prog 28 #[ptrV t, callV kk s s2 off N (.slice dp dl dc)] w fun x w' => x = .returned (errV 17) ∧ Below w.heap.size w w' := by
  have HFI : Hid (∀ W, Below w.heap.size w W → _) := Hid.mk (fun W (hB : Below w.heap.size w W) => file_any W t σ Ls (hT.below rfl hB) s hs)
  rw [he] at HFI
  simp only [optV, ptrV] at HFI
  clear hT hs he
  unfold callV ptrV at *
  go_enter Tryz.func28, Tryz.ntmps28
  go_wp2_with fail
  obtain ⟨X, hX⟩ : ∃ X, X = (w.alloc (.cells #[.int .i64 kk, .string s, .string s2, .int .i64 off, .int .i64 N, .slice dp dl dc] 34)).alloc (.cells #[.int .i64 0, .slice none 0 0, .int .i64 0, .int .i64 0, .int .i64 0, .slice none 0 0, .int .i64 0] 31) := ⟨_, rfl⟩
  have hXB : Below w.heap.size w X := by rw [hX]; exact ((Below.refl _ w).alloc (Nat.le_refl _) _).alloc (by simp) _
  have hXs : X.heap.size = w.heap.size + 2 := by rw [hX]; simp
  have hX0 : X.heap[w.heap.size]? = some (.cells #[.int .i64 kk, .string s, .string s2, .int .i64 off, .int .i64 N, .slice dp dl dc] 34 (0, 0)) := by rw [hX, Below.heap_alloc _ _ _ (by simp)]; exact blk_new w _
  have hX1 : X.heap[w.heap.size + 1]? = some (.cells #[.int .i64 0, .slice none 0 0, .int .i64 0, .int .i64 0, .int .i64 0, .slice none 0 0, .int .i64 0] 31 (0, 0)) := by
    rw [hX]
    have := blk_new (w.alloc (.cells #[.int .i64 kk, .string s, .string s2, .int .i64 off, .int .i64 N, .slice dp dl dc] 34)) (.cells #[.int .i64 0, .slice none 0 0, .int .i64 0, .int .i64 0, .int .i64 0, .slice none 0 0, .int .i64 0] 31)
    rwa [World.size_alloc] at this
  rw [← hX]
  clear hX
  have f1 := blk_cell hX0 1
  have f4 := blk_cell hX0 4
  simp at f1 f4
  have HXB := Hid.mk hXB
  have HXS := Hid.mk hXs
  have HX0 := Hid.mk hX0
  have HX1 := Hid.mk hX1
  clear hXB hXs hX0 hX1
  go_wp2_with (first
    | (go_at_call 48; refine (HFI.out X HXB.out).mono ?_; rintro e' W1 ⟨rfl, hB1⟩
       have HY1 := Hid.mk ((hB1.block _ (lt_of_block HX1.out)).trans HX1.out)
       have HB1 : Hid (Below w.heap.size w W1) := Hid.mk (HXB.out.trans (hB1.mono HXB.out.size))
       have hx := (hB1.block _ (lt_of_block HX0.out)).trans HX0.out
       have g4 := blk_cell hx 4
       simp at g4
       clear hB1 hx f1 f4)
    | (go_at_call 19; refine (failed_any _ _).mono ?_; rintro e' W4 ⟨rfl, hb4⟩; have hbx := (hb4.block _ (lt_of_block HY1.out)).trans HY1.out; have z0 := blk_cell hbx 0; have y0 := blk_free hbx 0; have z1 := blk_cell hbx 1; have y1 := blk_free hbx 1; have z2 := blk_cell hbx 2; have y2 := blk_free hbx 2; have z3 := blk_cell hbx 3; have y3 := blk_free hbx 3; have z4 := blk_cell hbx 4; have y4 := blk_free hbx 4; have z5 := blk_cell hbx 5; have y5 := blk_free hbx 5; have z6 := blk_cell hbx 6; have y6 := blk_free hbx 6; simp at z0 z1 z2 z3 z4 z5 z6; have BXX := Hid.mk hbx; have HB4 := Hid.mk (HB1.out.trans (hb4.mono HB1.out.size)); unfold errV; clear hbx hb4))
  have hb7 := (box7 BXX.out (.int .i64 17) (.slice none 0 0) (.int .i64 0) (.int .i64 0) (.int .i64 0) (.slice none 0 0) (.int .i64 0)).1
  have ho7 := (box7 BXX.out (.int .i64 17) (.slice none 0 0) (.int .i64 0) (.int .i64 0) (.int .i64 0) (.slice none 0 0) (.int .i64 0)).2
  obtain ⟨Y, hY⟩ : ∃ Y, Y = (((((((W4.setCell ⟨w.heap.size + 1, 0, none⟩ (.int .i64 17)).setCell ⟨w.heap.size + 1, 1, none⟩ (.slice none 0 0)).setCell ⟨w.heap.size + 1, 2, none⟩ (.int .i64 0)).setCell ⟨w.heap.size + 1, 3, none⟩ (.int .i64 0)).setCell ⟨w.heap.size + 1, 4, none⟩ (.int .i64 0)).setCell ⟨w.heap.size + 1, 5, none⟩ (.slice none 0 0)).setCell ⟨w.heap.size + 1, 6, none⟩ (.int .i64 0)) := ⟨_, rfl⟩
  rw [← hY] at hb7 ho7 ⊢
  have k0 := blk_cell hb7 0
  have k1 := blk_cell hb7 1
  have k2 := blk_cell hb7 2
  have k3 := blk_cell hb7 3
  have k4 := blk_cell hb7 4
  have k5 := blk_cell hb7 5
  have k6 := blk_cell hb7 6
  simp at k0 k1 k2 k3 k4 k5 k6
  refine bodyPost_ret (v := errV 17) ?_ rfl ?_
  · simp [results, Tryz.results28, go_sem, errV, k0, k1, k2, k3, k4, k5, k6]
  · exact ⟨rfl, ((Only.of_below (S := fun _ => False) HB4.out (fun k h1 h2 => by omega)).trans ho7 (fun i hi => .inr (by omega))).below (Nat.le_refl _) (fun _ h => h.elim)⟩
set_option maxRecDepth 100000 in
set_option maxHeartbeats 4000000 in
theorem write_none (w : World) (t : Nat) (σ : Tr) (Ls : List Lay) (hT : TrAt w t σ Ls) (kk : Int) (s s2 : ByteArray) (off N : Int) (dp : Option Addr) (dl dc : Nat) (hs : s.size ≤ 16777216) (h0 : ¬ off < 0) (h2 : ¬ (67379200 : Int) < off) (hd : dl = 0) (j : Nat) (he : fileE σ.nodes (ofS s) = (some j, 0)) :
    Calls Tryz.prog 27 #[ptrV t, callV kk s s2 off N (.slice dp dl dc)] w fun x w' => x = .returned (errV 0) ∧ Below w.heap.size w w' := by
  have HFI : Hid (∀ W, Below w.heap.size w W → _) := Hid.mk (fun W (hB : Below w.heap.size w W) => file_any W t σ Ls (hT.below rfl hB) s hs)
  rw [he] at HFI
  simp only [optV, ptrV] at HFI
  subst hd
  clear hT hs he
  unfold callV ptrV at *
  go_enter Tryz.func27, Tryz.ntmps27
  go_wp2_with fail
  obtain ⟨X, hX⟩ : ∃ X, X = (w.alloc (.cells #[.int .i64 kk, .string s, .string s2, .int .i64 off, .int .i64 N, .slice dp 0 dc] 34)).alloc (.cells #[.int .i64 0, .slice none 0 0, .int .i64 0, .int .i64 0, .int .i64 0, .slice none 0 0, .int .i64 0] 31) := ⟨_, rfl⟩
  have hXB : Below w.heap.size w X := by rw [hX]; exact ((Below.refl _ w).alloc (Nat.le_refl _) _).alloc (by simp) _
  have hXs : X.heap.size = w.heap.size + 2 := by rw [hX]; simp
  have hX0 : X.heap[w.heap.size]? = some (.cells #[.int .i64 kk, .string s, .string s2, .int .i64 off, .int .i64 N, .slice dp 0 dc] 34 (0, 0)) := by rw [hX, Below.heap_alloc _ _ _ (by simp)]; exact blk_new w _
  have hX1 : X.heap[w.heap.size + 1]? = some (.cells #[.int .i64 0, .slice none 0 0, .int .i64 0, .int .i64 0, .int .i64 0, .slice none 0 0, .int .i64 0] 31 (0, 0)) := by
    rw [hX]
    have := blk_new (w.alloc (.cells #[.int .i64 kk, .string s, .string s2, .int .i64 off, .int .i64 N, .slice dp 0 dc] 34)) (.cells #[.int .i64 0, .slice none 0 0, .int .i64 0, .int .i64 0, .int .i64 0, .slice none 0 0, .int .i64 0] 31)
    rwa [World.size_alloc] at this
  rw [← hX]
  clear hX
  have f1 := blk_cell hX0 1
  have f3 := blk_cell hX0 3
  have f5 := blk_cell hX0 5
  simp at f1 f3 f5
  have HXB := Hid.mk hXB
  have HXS := Hid.mk hXs
  have HX0 := Hid.mk hX0
  have HX1 := Hid.mk hX1
  clear hXB hXs hX0 hX1
  go_wp2_with (first
    | (go_at_call 48; refine (HFI.out X HXB.out).mono ?_; rintro e' W1 ⟨rfl, hB1⟩
       have hx := (hB1.block _ (lt_of_block HX0.out)).trans HX0.out
       have hy : (W1.alloc (.cells #[.pointer (some ⟨locL Ls j, 0, none⟩)] 49)).heap[w.heap.size]? = _ := (Below.heap_alloc _ _ _ (lt_of_block hx)).trans hx
       have hx1 := (hB1.block _ (lt_of_block HX1.out)).trans HX1.out
       have hbx : (W1.alloc (.cells #[.pointer (some ⟨locL Ls j, 0, none⟩)] 49)).heap[w.heap.size + 1]? = _ := (Below.heap_alloc _ _ _ (lt_of_block hx1)).trans hx1
       have g3 := blk_cell hy 3
       have g5 := blk_cell hy 5
       simp at g3 g5
       have z0 := blk_cell hbx 0
       have y0 := blk_free hbx 0
       have z1 := blk_cell hbx 1
       have y1 := blk_free hbx 1
       have z2 := blk_cell hbx 2
       have y2 := blk_free hbx 2
       have z3 := blk_cell hbx 3
       have y3 := blk_free hbx 3
       have z4 := blk_cell hbx 4
       have y4 := blk_free hbx 4
       have z5 := blk_cell hbx 5
       have y5 := blk_free hbx 5
       have z6 := blk_cell hbx 6
       have y6 := blk_free hbx 6
       simp at z0 z1 z2 z3 z4 z5 z6
       have BXX := Hid.mk hbx
       have HB4 : Hid (Below w.heap.size w (W1.alloc (.cells #[.pointer (some ⟨locL Ls j, 0, none⟩)] 49))) := Hid.mk (by have := HXB.out.trans (hB1.mono HXB.out.size); exact this.alloc this.size _)
       clear hB1 hx hy hx1 hbx f1 f3 f5))
  have hb7 := (box7 BXX.out (.int .i64 0) (.slice none 0 0) (.int .i64 0) (.int .i64 0) (.int .i64 0) (.slice none 0 0) (.int .i64 0)).1
  have ho7 := (box7 BXX.out (.int .i64 0) (.slice none 0 0) (.int .i64 0) (.int .i64 0) (.int .i64 0) (.slice none 0 0) (.int .i64 0)).2
  obtain ⟨Y, hY⟩ : ∃ Y, Y = ((((((((W1.alloc (.cells #[.pointer (some ⟨locL Ls j, 0, none⟩)] 49)).setCell ⟨w.heap.size + 1, 0, none⟩ (.int .i64 0)).setCell ⟨w.heap.size + 1, 1, none⟩ (.slice none 0 0)).setCell ⟨w.heap.size + 1, 2, none⟩ (.int .i64 0)).setCell ⟨w.heap.size + 1, 3, none⟩ (.int .i64 0)).setCell ⟨w.heap.size + 1, 4, none⟩ (.int .i64 0)).setCell ⟨w.heap.size + 1, 5, none⟩ (.slice none 0 0)).setCell ⟨w.heap.size + 1, 6, none⟩ (.int .i64 0)) := ⟨_, rfl⟩
  rw [← hY] at hb7 ho7 ⊢
  have k0 := blk_cell hb7 0
  have k1 := blk_cell hb7 1
  have k2 := blk_cell hb7 2
  have k3 := blk_cell hb7 3
  have k4 := blk_cell hb7 4
  have k5 := blk_cell hb7 5
  have k6 := blk_cell hb7 6
  simp at k0 k1 k2 k3 k4 k5 k6
  refine bodyPost_ret (v := errV 0) ?_ rfl ?_
  · simp [results, Tryz.results27, go_sem, errV, k0, k1, k2, k3, k4, k5, k6]
  · exact ⟨rfl, ((Only.of_below (S := fun _ => False) HB4.out (fun k h1 h2 => by omega)).trans ho7 (fun i hi => .inr (by omega))).below (Nat.le_refl _) (fun _ h => h.elim)⟩
theorem doo_read_arg1 (w : World) (t : Nat) (σ : Tr) (Ls : List Lay) (hT : TrAt w t σ Ls) (s s2 : ByteArray) (off N : Int) (dp : Option Addr) (dl dc : Nat) (hs : s.size ≤ 16777216) (h : off < 0) :
    Calls Tryz.prog 9 #[ptrV t, callV 7 s s2 off N (.slice dp dl dc)] w fun x w' => x = .returned (errV 1) ∧ Step (fun k => k ∈ feet t Ls) w t w' σ := by
  refine (do_read w t σ Ls s s2 off N dp dl dc 1 0 0 0 0 (fun x y _ => x = .slice none 0 0 ∧ y = .slice none 0 0) (fun k hk => hT.lt k hk) (fun _ _ _ _ h _ => h) (Hid.mk (fun W hB _ => (read_arg1 W t σ Ls (hT.below rfl hB) 7 s s2 off N dp dl dc hs h).mono (fun e w' hh => ⟨none, 0, 0, none, 0, 0, hh.1, Step.still (hT.below rfl hB) (fun k hk => hk) hh.2, rfl, rfl⟩)))).mono ?_
  rintro e w' ⟨a1, n1, c1, a5, n5, c5, rfl, hst, h1, h2⟩
  cases h1; cases h2
  exact ⟨rfl, hst⟩
theorem doo_read_arg2 (w : World) (t : Nat) (σ : Tr) (Ls : List Lay) (hT : TrAt w t σ Ls) (s s2 : ByteArray) (off N : Int) (dp : Option Addr) (dl dc : Nat) (hs : s.size ≤ 16777216) (h0 : ¬ off < 0) (h : N < 0) :
    Calls Tryz.prog 9 #[ptrV t, callV 7 s s2 off N (.slice dp dl dc)] w fun x w' => x = .returned (errV 1) ∧ Step (fun k => k ∈ feet t Ls) w t w' σ := by
  refine (do_read w t σ Ls s s2 off N dp dl dc 1 0 0 0 0 (fun x y _ => x = .slice none 0 0 ∧ y = .slice none 0 0) (fun k hk => hT.lt k hk) (fun _ _ _ _ h _ => h) (Hid.mk (fun W hB _ => (read_arg2 W t σ Ls (hT.below rfl hB) 7 s s2 off N dp dl dc hs h0 h).mono (fun e w' hh => ⟨none, 0, 0, none, 0, 0, hh.1, Step.still (hT.below rfl hB) (fun k hk => hk) hh.2, rfl, rfl⟩)))).mono ?_
  rintro e w' ⟨a1, n1, c1, a5, n5, c5, rfl, hst, h1, h2⟩
  cases h1; cases h2
  exact ⟨rfl, hst⟩
theorem doo_read_arg3 (w : World) (t : Nat) (σ : Tr) (Ls : List Lay) (hT : TrAt w t σ Ls) (s s2 : ByteArray) (off N : Int) (dp : Option Addr) (dl dc : Nat) (hs : s.size ≤ 16777216) (h0 : ¬ off < 0) (h1 : ¬ N < 0) (h : 8192 < N) :
    Calls Tryz.prog 9 #[ptrV t, callV 7 s s2 off N (.slice dp dl dc)] w fun x w' => x = .returned (errV 1) ∧ Step (fun k => k ∈ feet t Ls) w t w' σ := by
  refine (do_read w t σ Ls s s2 off N dp dl dc 1 0 0 0 0 (fun x y _ => x = .slice none 0 0 ∧ y = .slice none 0 0) (fun k hk => hT.lt k hk) (fun _ _ _ _ h _ => h) (Hid.mk (fun W hB _ => (read_arg3 W t σ Ls (hT.below rfl hB) 7 s s2 off N dp dl dc hs h0 h1 h).mono (fun e w' hh => ⟨none, 0, 0, none, 0, 0, hh.1, Step.still (hT.below rfl hB) (fun k hk => hk) hh.2, rfl, rfl⟩)))).mono ?_
  rintro e w' ⟨a1, n1, c1, a5, n5, c5, rfl, hst, h1, h2⟩
  cases h1; cases h2
  exact ⟨rfl, hst⟩
theorem doo_read_no (w : World) (t : Nat) (σ : Tr) (Ls : List Lay) (hT : TrAt w t σ Ls) (s s2 : ByteArray) (off N : Int) (dp : Option Addr) (dl dc : Nat) (hs : s.size ≤ 16777216) (h0 : ¬ off < 0) (h1 : ¬ N < 0) (h2 : ¬ 8192 < N) (e : Int) (he : fileE σ.nodes (ofS s) = (none, e)) (hne : e ≠ 0) :
    Calls Tryz.prog 9 #[ptrV t, callV 7 s s2 off N (.slice dp dl dc)] w fun x w' => x = .returned (errV e) ∧ Step (fun k => k ∈ feet t Ls) w t w' σ := by
  refine (do_read w t σ Ls s s2 off N dp dl dc e 0 0 0 0 (fun x y _ => x = .slice none 0 0 ∧ y = .slice none 0 0) (fun k hk => hT.lt k hk) (fun _ _ _ _ h _ => h) (Hid.mk (fun W hB _ => (read_no W t σ Ls (hT.below rfl hB) 7 s s2 off N dp dl dc hs h0 h1 h2 e he hne).mono (fun e w' hh => ⟨none, 0, 0, none, 0, 0, hh.1, Step.still (hT.below rfl hB) (fun k hk => hk) hh.2, rfl, rfl⟩)))).mono ?_
  rintro e w' ⟨a1, n1, c1, a5, n5, c5, rfl, hst, h1, h2⟩
  cases h1; cases h2
  exact ⟨rfl, hst⟩
theorem doo_write_arg1 (w : World) (t : Nat) (σ : Tr) (Ls : List Lay) (hT : TrAt w t σ Ls) (s s2 : ByteArray) (off N : Int) (dp : Option Addr) (dl dc : Nat) (hs : s.size ≤ 16777216) (h : off < 0) :
    Calls Tryz.prog 9 #[ptrV t, callV 8 s s2 off N (.slice dp dl dc)] w fun x w' => x = .returned (errV 1) ∧ Step (fun k => k ∈ feet t Ls) w t w' σ := by
  refine (do_write w t σ Ls s s2 off N dp dl dc 1 0 0 0 0 (fun x y _ => x = .slice none 0 0 ∧ y = .slice none 0 0) (fun k hk => hT.lt k hk) (fun _ _ _ _ h _ => h) (Hid.mk (fun W hB _ => (write_arg1 W t σ Ls (hT.below rfl hB) 8 s s2 off N dp dl dc hs h).mono (fun e w' hh => ⟨none, 0, 0, none, 0, 0, hh.1, Step.still (hT.below rfl hB) (fun k hk => hk) hh.2, rfl, rfl⟩)))).mono ?_
  rintro e w' ⟨a1, n1, c1, a5, n5, c5, rfl, hst, h1, h2⟩
  cases h1; cases h2
  exact ⟨rfl, hst⟩
theorem doo_write_arg2 (w : World) (t : Nat) (σ : Tr) (Ls : List Lay) (hT : TrAt w t σ Ls) (s s2 : ByteArray) (off N : Int) (dp : Option Addr) (dl dc : Nat) (hs : s.size ≤ 16777216) (h0 : ¬ off < 0) (h : (8192 : Int) < (dl : Int)) :
    Calls Tryz.prog 9 #[ptrV t, callV 8 s s2 off N (.slice dp dl dc)] w fun x w' => x = .returned (errV 1) ∧ Step (fun k => k ∈ feet t Ls) w t w' σ := by
  refine (do_write w t σ Ls s s2 off N dp dl dc 1 0 0 0 0 (fun x y _ => x = .slice none 0 0 ∧ y = .slice none 0 0) (fun k hk => hT.lt k hk) (fun _ _ _ _ h _ => h) (Hid.mk (fun W hB _ => (write_arg2 W t σ Ls (hT.below rfl hB) 8 s s2 off N dp dl dc hs h0 h).mono (fun e w' hh => ⟨none, 0, 0, none, 0, 0, hh.1, Step.still (hT.below rfl hB) (fun k hk => hk) hh.2, rfl, rfl⟩)))).mono ?_
  rintro e w' ⟨a1, n1, c1, a5, n5, c5, rfl, hst, h1, h2⟩
  cases h1; cases h2
  exact ⟨rfl, hst⟩
theorem doo_write_no (w : World) (t : Nat) (σ : Tr) (Ls : List Lay) (hT : TrAt w t σ Ls) (s s2 : ByteArray) (off N : Int) (dp : Option Addr) (dl dc : Nat) (hs : s.size ≤ 16777216) (h0 : ¬ off < 0) (h1 : ¬ (8192 : Int) < (dl : Int)) (e : Int) (he : fileE σ.nodes (ofS s) = (none, e)) (hne : e ≠ 0) :
    Calls Tryz.prog 9 #[ptrV t, callV 8 s s2 off N (.slice dp dl dc)] w fun x w' => x = .returned (errV e) ∧ Step (fun k => k ∈ feet t Ls) w t w' σ := by
  refine (do_write w t σ Ls s s2 off N dp dl dc e 0 0 0 0 (fun x y _ => x = .slice none 0 0 ∧ y = .slice none 0 0) (fun k hk => hT.lt k hk) (fun _ _ _ _ h _ => h) (Hid.mk (fun W hB _ => (write_no W t σ Ls (hT.below rfl hB) 8 s s2 off N dp dl dc hs h0 h1 e he hne).mono (fun e w' hh => ⟨none, 0, 0, none, 0, 0, hh.1, Step.still (hT.below rfl hB) (fun k hk => hk) hh.2, rfl, rfl⟩)))).mono ?_
  rintro e w' ⟨a1, n1, c1, a5, n5, c5, rfl, hst, h1, h2⟩
  cases h1; cases h2
  exact ⟨rfl, hst⟩
theorem doo_write_big (w : World) (t : Nat) (σ : Tr) (Ls : List Lay) (hT : TrAt w t σ Ls) (s s2 : ByteArray) (off N : Int) (dp : Option Addr) (dl dc : Nat) (hs : s.size ≤ 16777216) (h0 : ¬ off < 0) (h1 : ¬ (8192 : Int) < (dl : Int)) (h2 : (67379200 : Int) - (dl : Int) < off) (j : Nat) (he : fileE σ.nodes (ofS s) = (some j, 0)) :
    Calls Tryz.prog 9 #[ptrV t, callV 8 s s2 off N (.slice dp dl dc)] w fun x w' => x = .returned (errV 17) ∧ Step (fun k => k ∈ feet t Ls) w t w' σ := by
  refine (do_write w t σ Ls s s2 off N dp dl dc 17 0 0 0 0 (fun x y _ => x = .slice none 0 0 ∧ y = .slice none 0 0) (fun k hk => hT.lt k hk) (fun _ _ _ _ h _ => h) (Hid.mk (fun W hB _ => (write_big W t σ Ls (hT.below rfl hB) 8 s s2 off N dp dl dc hs h0 h1 h2 j he).mono (fun e w' hh => ⟨none, 0, 0, none, 0, 0, hh.1, Step.still (hT.below rfl hB) (fun k hk => hk) hh.2, rfl, rfl⟩)))).mono ?_
  rintro e w' ⟨a1, n1, c1, a5, n5, c5, rfl, hst, h1, h2⟩
  cases h1; cases h2
  exact ⟨rfl, hst⟩
theorem doo_write_none (w : World) (t : Nat) (σ : Tr) (Ls : List Lay) (hT : TrAt w t σ Ls) (s s2 : ByteArray) (off N : Int) (dp : Option Addr) (dl dc : Nat) (hs : s.size ≤ 16777216) (h0 : ¬ off < 0) (h2 : ¬ (67379200 : Int) < off) (hd : dl = 0) (j : Nat) (he : fileE σ.nodes (ofS s) = (some j, 0)) :
    Calls Tryz.prog 9 #[ptrV t, callV 8 s s2 off N (.slice dp dl dc)] w fun x w' => x = .returned (errV 0) ∧ Step (fun k => k ∈ feet t Ls) w t w' σ := by
  refine (do_write w t σ Ls s s2 off N dp dl dc 0 0 0 0 0 (fun x y _ => x = .slice none 0 0 ∧ y = .slice none 0 0) (fun k hk => hT.lt k hk) (fun _ _ _ _ h _ => h) (Hid.mk (fun W hB _ => (write_none W t σ Ls (hT.below rfl hB) 8 s s2 off N dp dl dc hs h0 h2 hd j he).mono (fun e w' hh => ⟨none, 0, 0, none, 0, 0, hh.1, Step.still (hT.below rfl hB) (fun k hk => hk) hh.2, rfl, rfl⟩)))).mono ?_
  rintro e w' ⟨a1, n1, c1, a5, n5, c5, rfl, hst, h1, h2⟩
  cases h1; cases h2
  exact ⟨rfl, hst⟩
theorem doo_trunc_arg (w : World) (t : Nat) (σ : Tr) (Ls : List Lay) (hT : TrAt w t σ Ls) (s s2 : ByteArray) (off N : Int) (dp : Option Addr) (dl dc : Nat) (hs : s.size ≤ 16777216) (h : N < 0) :
    Calls Tryz.prog 9 #[ptrV t, callV 9 s s2 off N (.slice dp dl dc)] w fun x w' => x = .returned (errV 1) ∧ Step (fun k => k ∈ feet t Ls) w t w' σ := by
  refine (do_trunc w t σ Ls s s2 off N dp dl dc 1 0 0 0 0 (fun x y _ => x = .slice none 0 0 ∧ y = .slice none 0 0) (fun k hk => hT.lt k hk) (fun _ _ _ _ h _ => h) (Hid.mk (fun W hB _ => (trunc_arg W t σ Ls (hT.below rfl hB) 9 s s2 off N dp dl dc hs h).mono (fun e w' hh => ⟨none, 0, 0, none, 0, 0, hh.1, Step.still (hT.below rfl hB) (fun k hk => hk) hh.2, rfl, rfl⟩)))).mono ?_
  rintro e w' ⟨a1, n1, c1, a5, n5, c5, rfl, hst, h1, h2⟩
  cases h1; cases h2
  exact ⟨rfl, hst⟩
theorem doo_trunc_no (w : World) (t : Nat) (σ : Tr) (Ls : List Lay) (hT : TrAt w t σ Ls) (s s2 : ByteArray) (off N : Int) (dp : Option Addr) (dl dc : Nat) (hs : s.size ≤ 16777216) (h0 : ¬ N < 0) (e : Int) (he : fileE σ.nodes (ofS s) = (none, e)) (hne : e ≠ 0) :
    Calls Tryz.prog 9 #[ptrV t, callV 9 s s2 off N (.slice dp dl dc)] w fun x w' => x = .returned (errV e) ∧ Step (fun k => k ∈ feet t Ls) w t w' σ := by
  refine (do_trunc w t σ Ls s s2 off N dp dl dc e 0 0 0 0 (fun x y _ => x = .slice none 0 0 ∧ y = .slice none 0 0) (fun k hk => hT.lt k hk) (fun _ _ _ _ h _ => h) (Hid.mk (fun W hB _ => (trunc_no W t σ Ls (hT.below rfl hB) 9 s s2 off N dp dl dc hs h0 e he hne).mono (fun e w' hh => ⟨none, 0, 0, none, 0, 0, hh.1, Step.still (hT.below rfl hB) (fun k hk => hk) hh.2, rfl, rfl⟩)))).mono ?_
  rintro e w' ⟨a1, n1, c1, a5, n5, c5, rfl, hst, h1, h2⟩
  cases h1; cases h2
  exact ⟨rfl, hst⟩
theorem doo_trunc_big (w : World) (t : Nat) (σ : Tr) (Ls : List Lay) (hT : TrAt w t σ Ls) (s s2 : ByteArray) (off N : Int) (dp : Option Addr) (dl dc : Nat) (hs : s.size ≤ 16777216) (h0 : ¬ N < 0) (h2 : (67379200 : Int) < N) (j : Nat) (he : fileE σ.nodes (ofS s) = (some j, 0)) :
    Calls Tryz.prog 9 #[ptrV t, callV 9 s s2 off N (.slice dp dl dc)] w fun x w' => x = .returned (errV 17) ∧ Step (fun k => k ∈ feet t Ls) w t w' σ := by
  refine (do_trunc w t σ Ls s s2 off N dp dl dc 17 0 0 0 0 (fun x y _ => x = .slice none 0 0 ∧ y = .slice none 0 0) (fun k hk => hT.lt k hk) (fun _ _ _ _ h _ => h) (Hid.mk (fun W hB _ => (trunc_big W t σ Ls (hT.below rfl hB) 9 s s2 off N dp dl dc hs h0 h2 j he).mono (fun e w' hh => ⟨none, 0, 0, none, 0, 0, hh.1, Step.still (hT.below rfl hB) (fun k hk => hk) hh.2, rfl, rfl⟩)))).mono ?_
  rintro e w' ⟨a1, n1, c1, a5, n5, c5, rfl, hst, h1, h2⟩
  cases h1; cases h2
  exact ⟨rfl, hst⟩
end Go.Proofs.YtehaoeclnmelhacGreat
