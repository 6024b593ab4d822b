/-
  Do, at a Kind that is none.
-/
import Derived.Test.YtehaoeclnmelhacGreatLayRm
import Derived.Test.YtehaoeclnmelhacGreatTrDo
namespace Go.Proofs.YtehaoeclnmelhacGreat
open Go Go.Proofs Go.RowKit Go.Shelf Go.Sort

set_option maxRecDepth 100000 in
set_option maxHeartbeats 4000000 in
theorem do_other (w : World) (t : Nat) (k : Int) (hk : k < 1 ∨ 13 < k) (hwf : (Lit.int .i64 k).wf = true) (s s2 : ByteArray) (off m : Int) (dp : Option Addr) (dl dc : Nat) :
    Calls Tryz.prog 9 #[ptrV t, callV k s s2 off m (.slice dp dl dc)] w fun e w' => e = .returned (errV 1) ∧ Below w.heap.size w w' := by
  have mixed : Tryz.prog.follows Departure.mixedOrders = true := by kernel_rfl
  have HK := Hid.mk (fun W => kinds_any W)
  have HKN := Hid.mk (kind_none hk)
  have HWF := Hid.mk hwf
  clear hk hwf
  unfold callV ptrV at *
  go_enter Tryz.func9, Tryz.ntmps9
  go_wp2_with fail
  obtain ⟨X, hX⟩ : ∃ X, X = (w.alloc (.cells #[.int .i64 k, .string s, .string s2, .int .i64 off, .int .i64 m, .slice dp dl dc] 34)).alloc (.cells #[.int .i64 0, .slice none 0 0, .int .i64 0, .int .i64 0, .int .i64 0, .slice none 0 0, .int .i64 0] 31) := ⟨_, rfl⟩
  have hXB : Below w.heap.size w X := by rw [hX]; exact ((Below.refl _ w).alloc (Nat.le_refl _) _).alloc (by simp) _
  have hXs : X.heap.size = w.heap.size + 2 := by rw [hX]; simp
  have hX0 : X.heap[w.heap.size]? = some (.cells #[.int .i64 k, .string s, .string s2, .int .i64 off, .int .i64 m, .slice dp dl dc] 34 (0, 0)) := by rw [hX, Below.heap_alloc _ _ _ (by simp)]; exact blk_new w _
  have hX1 : X.heap[w.heap.size + 1]? = some (.cells #[.int .i64 0, .slice none 0 0, .int .i64 0, .int .i64 0, .int .i64 0, .slice none 0 0, .int .i64 0] 31 (0, 0)) := by
    rw [hX]
    have := blk_new (w.alloc (.cells #[.int .i64 k, .string s, .string s2, .int .i64 off, .int .i64 m, .slice dp dl dc] 34)) (.cells #[.int .i64 0, .slice none 0 0, .int .i64 0, .int .i64 0, .int .i64 0, .slice none 0 0, .int .i64 0] 31)
    rwa [World.size_alloc] at this
  rw [← hX]
  clear hX
  have c0 := blk_cell hX0 0
  simp at c0
  have HXB := Hid.mk hXB
  have HXS := Hid.mk hXs
  have HX1 := Hid.mk hX1
  have HBX : Hid (∀ W, Below X.drew.heap.size X.drew W → W.cell? ⟨w.heap.size, 0, none⟩ = some (.int .i64 k)) := Hid.mk (fun W hB => by
    rw [blk_cell ((hB.block w.heap.size (show w.heap.size < X.heap.size by omega)).trans hX0)]; rfl)
  clear hXB hXs hX0 hX1
  go_cut [5, 6] from 7 to 13 (fun s5 s6 wc => s5 = .nilFunc ∧ s6 = .bool false ∧ Below X.heap.size X wc)
  case first =>
    go_region_with (go_at_call 18; refine (HK.out _).mono ?_; rintro e' Wn ⟨rfl, ⟨n, hm⟩, hbn⟩; have hlk := hm.look2 keyed3 Tryz.underlying55 (zero_fn _) (key_int (k := k) HWF.out); rw [HKN.out] at hlk; simp only [Option.getD_none, Option.isSome_none] at hlk; have hlk2 : (Instr.lookup 55 (.map (some X.heap.size)) (.int .i64 k) true).run Tryz.prog Wn = .ok (.tuple #[.nilFunc, .bool false]) Wn := hlk; clear hlk; have cn := HBX.out Wn hbn; have XB := Hid.mk hbn; clear hm hbn)
    all_goals (go_wp2; go_meet; exact ⟨rfl, rfl, (Below.refl _ X).drew.trans XB.out⟩)
  case rest =>
    obtain ⟨rfl, rfl, hB⟩ := hcut
    have q1 := (hB.block (w.heap.size + 1) (by have := HXS.out; omega)).trans HX1.out
    have hwB : Below w.heap.size w wc := HXB.out.trans (hB.mono HXB.out.size)
    have HB1 := Hid.mk q1
    have HBB := Hid.mk hwB
    clear hB q1 hwB
    go_wp2_with (go_at_call 19; refine (failed_any _ _).mono ?_; rintro e' W3 ⟨rfl, hb3⟩; have hbx := (hb3.block _ (lt_of_block HB1.out)).trans HB1.out; have z0 := blk_cell hbx 0; have y0 := blk_free hbx 0; have z1 := blk_cell hbx 1; have y1 := blk_free hbx 1; have z2 := blk_cell hbx 2; have y2 := blk_free hbx 2; have z3 := blk_cell hbx 3; have y3 := blk_free hbx 3; have z4 := blk_cell hbx 4; have y4 := blk_free hbx 4; have z5 := blk_cell hbx 5; have y5 := blk_free hbx 5; have z6 := blk_cell hbx 6; have y6 := blk_free hbx 6; simp at z0 z1 z2 z3 z4 z5 z6; have BXX := Hid.mk hbx; have HB3 := Hid.mk hb3; unfold errV; clear hbx hb3)
    have hb7 := (box7 BXX.out (.int .i64 1) (.slice none 0 0) (.int .i64 0) (.int .i64 0) (.int .i64 0) (.slice none 0 0) (.int .i64 0)).1
    have ho7 := (box7 BXX.out (.int .i64 1) (.slice none 0 0) (.int .i64 0) (.int .i64 0) (.int .i64 0) (.slice none 0 0) (.int .i64 0)).2
    obtain ⟨Y, hY⟩ : ∃ Y, Y = (((((((W3.setCell ⟨w.heap.size + 1, 0, none⟩ (.int .i64 1)).setCell ⟨w.heap.size + 1, 1, none⟩ (.slice none 0 0)).setCell ⟨w.heap.size + 1, 2, none⟩ (.int .i64 0)).setCell ⟨w.heap.size + 1, 3, none⟩ (.int .i64 0)).setCell ⟨w.heap.size + 1, 4, none⟩ (.int .i64 0)).setCell ⟨w.heap.size + 1, 5, none⟩ (.slice none 0 0)).setCell ⟨w.heap.size + 1, 6, none⟩ (.int .i64 0)) := ⟨_, rfl⟩
    rw [← hY] at hb7 ho7 ⊢
    have k0 := blk_cell hb7 0
    have k1 := blk_cell hb7 1
    have k2 := blk_cell hb7 2
    have k3 := blk_cell hb7 3
    have k4 := blk_cell hb7 4
    have k5 := blk_cell hb7 5
    have k6 := blk_cell hb7 6
    simp at k0 k1 k2 k3 k4 k5 k6
    refine bodyPost_ret (v := errV 1) ?_ rfl ?_
    · simp [results, Tryz.results9, go_sem, errV, k0, k1, k2, k3, k4, k5, k6]
    · exact ⟨rfl, by have h1 := HBB.out.trans (HB3.out.mono HBB.out.size); exact (Only.of_below (S := fun _ => False) h1 (fun k h1 h2 => by omega) |>.trans ho7 (fun i hi => .inr (by omega))).below (Nat.le_refl _) (fun _ h => h.elim)⟩
end Go.Proofs.YtehaoeclnmelhacGreat
