/-
  stat.
-/
import Derived.Test.YtehaoeclnmelhacGreatTrKinds
import Derived.BigRegion
namespace Go.Proofs.YtehaoeclnmelhacGreat
open Go Go.Proofs Go.RowKit Go.Shelf Go.Sort

theorem drew_heap (W : World) : W.drew.heap = W.heap := rfl
def statV (N : List Nd) (s : List UInt8) : Value :=
  match nodeE N s with
  | (some j, _) => .agg #[.int .i64 0, .slice none 0 0, .int .i64 (nodeAt N j).kind, .int .i64 (nodeAt N j).size, .int .i64 (nodeAt N j).links, .slice none 0 0, .int .i64 0]
  | (none, e) => errV e
set_option maxRecDepth 100000 in
set_option maxHeartbeats 4000000 in
theorem stat_any (w : World) (t : Nat) (σ : Tr) (Ls : List Lay) (hT : TrAt w t σ Ls) (k : Int) (s s2 : ByteArray) (off m : Int) (dp : Option Addr) (dl dc : Nat) (hs : s.size ≤ 16777216) :
    Calls Tryz.prog 29 #[ptrV t, callV k s s2 off m (.slice dp dl dc)] w fun e w' => e = .returned (statV σ.nodes (ofS s)) ∧ Below w.heap.size w w' := by
  have HN : Hid (∀ W, Below w.heap.size w W → _) := Hid.mk (fun W (hB : Below w.heap.size w W) => node_any W t σ Ls (hT.below rfl hB) s hs)
  have HT := Hid.mk hT
  rcases nodeE_or σ.nodes (ofS s) with ⟨j, hj⟩ | ⟨e, he, hne⟩
  · have hjl := nodeE_lt hT _ hj
    have HV : Hid (statV σ.nodes (ofS s) = .agg #[.int .i64 0, .slice none 0 0, .int .i64 (nodeAt σ.nodes j).kind, .int .i64 (nodeAt σ.nodes j).size, .int .i64 (nodeAt σ.nodes j).links, .slice none 0 0, .int .i64 0]) := Hid.mk (by unfold statV; rw [hj])
    rw [hj] at HN
    simp only [optV, ptrV] at HN
    rw [HV.out]
    clear hT hs hj
    unfold callV ptrV at *
    go_enter Tryz.func29, Tryz.ntmps29
    go_wp2_with fail
    obtain ⟨X, hX⟩ : ∃ X, X = (w.alloc (.cells #[.int .i64 k, .string s, .string s2, .int .i64 off, .int .i64 m, .slice dp dl dc] 34)).alloc (.cells #[.int .i64 0, .slice none 0 0, .int .i64 0, .int .i64 0, .int .i64 0, .slice none 0 0, .int .i64 0] 31) := ⟨_, rfl⟩
    have hXB : Below w.heap.size w X := by rw [hX]; exact ((Below.refl _ w).alloc (Nat.le_refl _) _).alloc (by simp) _
    have hXs : X.heap.size = w.heap.size + 2 := by rw [hX]; simp
    have hX0 : X.heap[w.heap.size]? = some (.cells #[.int .i64 k, .string s, .string s2, .int .i64 off, .int .i64 m, .slice dp dl dc] 34 (0, 0)) := by rw [hX, Below.heap_alloc _ _ _ (by simp)]; exact blk_new w _
    have hX1 : X.heap[w.heap.size + 1]? = some (.cells #[.int .i64 0, .slice none 0 0, .int .i64 0, .int .i64 0, .int .i64 0, .slice none 0 0, .int .i64 0] 31 (0, 0)) := by
      rw [hX]
      have := blk_new (w.alloc (.cells #[.int .i64 k, .string s, .string s2, .int .i64 off, .int .i64 m, .slice dp dl dc] 34)) (.cells #[.int .i64 0, .slice none 0 0, .int .i64 0, .int .i64 0, .int .i64 0, .slice none 0 0, .int .i64 0] 31)
      rwa [World.size_alloc] at this
    rw [← hX]
    clear hX
    have HXB := Hid.mk hXB
    have HX1 := Hid.mk hX1
    have hxs := hXs
    refine (HN.out X hXB).mono ?_
    rintro e' W1 ⟨rfl, hB1⟩
    have hB : Below w.heap.size w W1 := hXB.trans (hB1.mono (by omega))
    obtain ⟨g0, g1, g2⟩ := (HT.out.below rfl hB).kindAt hjl
    have hbx := (hB1.block (w.heap.size + 1) (by omega)).trans hX1
    have z0 := blk_cell hbx 0
    have y0 := blk_free hbx 0
    have z1 := blk_cell hbx 1
    have y1 := blk_free hbx 1
    have z2 := blk_cell hbx 2
    have y2 := blk_free hbx 2
    have z3 := blk_cell hbx 3
    have y3 := blk_free hbx 3
    have z4 := blk_cell hbx 4
    have y4 := blk_free hbx 4
    have z5 := blk_cell hbx 5
    have y5 := blk_free hbx 5
    have z6 := blk_cell hbx 6
    have y6 := blk_free hbx 6
    simp at z0 z1 z2 z3 z4 z5 z6
    have HBX := Hid.mk hbx
    have HB := Hid.mk hB
    have hne1 : ¬ locL Ls j = w.heap.size + 1 := by
      obtain ⟨L, _, h1, _, _, h4⟩ := HT.out.get hjl
      have := HT.out.lt L.b (mem_feet h1 L.b_foot)
      omega
    clear hB hbx hB1 hX0 hX1 hXB hXs hxs
    go_wp2_with fail
    go_region
    have hb7 := (box7 HBX.out (.int .i64 0) (.slice none 0 0) (.int .i64 (nodeAt σ.nodes j).kind) (.int .i64 (nodeAt σ.nodes j).size) (.int .i64 (nodeAt σ.nodes j).links) (.slice none 0 0) (.int .i64 0)).1
    have ho7 := (box7 HBX.out (.int .i64 0) (.slice none 0 0) (.int .i64 (nodeAt σ.nodes j).kind) (.int .i64 (nodeAt σ.nodes j).size) (.int .i64 (nodeAt σ.nodes j).links) (.slice none 0 0) (.int .i64 0)).2
    obtain ⟨Y, hY⟩ : ∃ Y, Y = (((((((W1.setCell ⟨w.heap.size + 1, 0, none⟩ (.int .i64 0)).setCell ⟨w.heap.size + 1, 1, none⟩ (.slice none 0 0)).setCell ⟨w.heap.size + 1, 2, none⟩ (.int .i64 (nodeAt σ.nodes j).kind)).setCell ⟨w.heap.size + 1, 3, none⟩ (.int .i64 (nodeAt σ.nodes j).size)).setCell ⟨w.heap.size + 1, 4, none⟩ (.int .i64 (nodeAt σ.nodes j).links)).setCell ⟨w.heap.size + 1, 5, none⟩ (.slice none 0 0)).setCell ⟨w.heap.size + 1, 6, none⟩ (.int .i64 0)).drew := ⟨_, rfl⟩
    have hb8 : Y.heap[w.heap.size + 1]? = some (.cells #[.int .i64 0, .slice none 0 0, .int .i64 (nodeAt σ.nodes j).kind, .int .i64 (nodeAt σ.nodes j).size, .int .i64 (nodeAt σ.nodes j).links, .slice none 0 0, .int .i64 0] 31 (0, 0)) := by rw [hY, drew_heap]; exact hb7
    have ho8 : Only (fun k => k = w.heap.size + 1) W1 Y := by rw [hY]; exact ho7.drew
    rw [← hY]
    have k0 := blk_cell hb8 0
    have k1 := blk_cell hb8 1
    have k2 := blk_cell hb8 2
    have k3 := blk_cell hb8 3
    have k4 := blk_cell hb8 4
    have k5 := blk_cell hb8 5
    have k6 := blk_cell hb8 6
    simp at k0 k1 k2 k3 k4 k5 k6
    have HO8 := Hid.mk ho8
    clear hY hb7 ho7 hb8 ho8 z0 z1 z2 z3 z4 z5 z6 y0 y1 y2 y3 y4 y5 y6 g0 g1 g2
    go_wp2
    refine bodyPost_ret (v := .agg #[.int .i64 0, .slice none 0 0, .int .i64 (nodeAt σ.nodes j).kind, .int .i64 (nodeAt σ.nodes j).size, .int .i64 (nodeAt σ.nodes j).links, .slice none 0 0, .int .i64 0]) ?_ rfl ⟨rfl, ?_⟩
    · simp [results, Tryz.results29, go_sem, k0, k1, k2, k3, k4, k5, k6]
    · exact ((Only.of_below (S := fun _ => False) HB.out (fun k h1 h2 => by omega)).trans HO8.out (fun i hi => .inr (by omega))).below (Nat.le_refl _) (fun _ h => h.elim)
  · have HV : Hid (statV σ.nodes (ofS s) = errV e) := Hid.mk (by unfold statV; rw [he])
    rw [he] at HN
    simp only [optV] at HN
    rw [HV.out]
    clear hT hs he
    unfold callV ptrV at *
    go_enter Tryz.func29, Tryz.ntmps29
    go_wp2_with fail
    obtain ⟨X, hX⟩ : ∃ X, X = (w.alloc (.cells #[.int .i64 k, .string s, .string s2, .int .i64 off, .int .i64 m, .slice dp dl dc] 34)).alloc (.cells #[.int .i64 0, .slice none 0 0, .int .i64 0, .int .i64 0, .int .i64 0, .slice none 0 0, .int .i64 0] 31) := ⟨_, rfl⟩
    have hXB : Below w.heap.size w X := by rw [hX]; exact ((Below.refl _ w).alloc (Nat.le_refl _) _).alloc (by simp) _
    have hXs : X.heap.size = w.heap.size + 2 := by rw [hX]; simp
    have hX0 : X.heap[w.heap.size]? = some (.cells #[.int .i64 k, .string s, .string s2, .int .i64 off, .int .i64 m, .slice dp dl dc] 34 (0, 0)) := by rw [hX, Below.heap_alloc _ _ _ (by simp)]; exact blk_new w _
    have hX1 : X.heap[w.heap.size + 1]? = some (.cells #[.int .i64 0, .slice none 0 0, .int .i64 0, .int .i64 0, .int .i64 0, .slice none 0 0, .int .i64 0] 31 (0, 0)) := by
      rw [hX]
      have := blk_new (w.alloc (.cells #[.int .i64 k, .string s, .string s2, .int .i64 off, .int .i64 m, .slice dp dl dc] 34)) (.cells #[.int .i64 0, .slice none 0 0, .int .i64 0, .int .i64 0, .int .i64 0, .slice none 0 0, .int .i64 0] 31)
      rwa [World.size_alloc] at this
    rw [← hX]
    clear hX
    refine (HN.out X hXB).mono ?_
    rintro e' W1 ⟨rfl, hB1⟩
    have hB : Below w.heap.size w W1 := hXB.trans (hB1.mono (by omega))
    have HF := Hid.mk (failed_any W1 e)
    have hbx1 := (hB1.block (w.heap.size + 1) (by omega)).trans hX1
    have HB1 := Hid.mk hbx1
    have HBB := Hid.mk hB
    clear hB hB1 hX0 hX1 hXB hXs hbx1
    go_wp2_with (go_at_call 19; refine HF.out.mono ?_; rintro e' W3 ⟨rfl, hb3⟩; have hbx := (hb3.block _ (lt_of_block HB1.out)).trans HB1.out; have z0 := blk_cell hbx 0; have y0 := blk_free hbx 0; have z1 := blk_cell hbx 1; have y1 := blk_free hbx 1; have z2 := blk_cell hbx 2; have y2 := blk_free hbx 2; have z3 := blk_cell hbx 3; have y3 := blk_free hbx 3; have z4 := blk_cell hbx 4; have y4 := blk_free hbx 4; have z5 := blk_cell hbx 5; have y5 := blk_free hbx 5; have z6 := blk_cell hbx 6; have y6 := blk_free hbx 6; simp at z0 z1 z2 z3 z4 z5 z6; have BXX := Hid.mk hbx; have HB3 := Hid.mk hb3; unfold errV; clear hbx hb3)
    have hb7 := (box7 BXX.out (.int .i64 e) (.slice none 0 0) (.int .i64 0) (.int .i64 0) (.int .i64 0) (.slice none 0 0) (.int .i64 0)).1
    have ho7 := (box7 BXX.out (.int .i64 e) (.slice none 0 0) (.int .i64 0) (.int .i64 0) (.int .i64 0) (.slice none 0 0) (.int .i64 0)).2
    obtain ⟨Y, hY⟩ : ∃ Y, Y = (((((((W3.setCell ⟨w.heap.size + 1, 0, none⟩ (.int .i64 e)).setCell ⟨w.heap.size + 1, 1, none⟩ (.slice none 0 0)).setCell ⟨w.heap.size + 1, 2, none⟩ (.int .i64 0)).setCell ⟨w.heap.size + 1, 3, none⟩ (.int .i64 0)).setCell ⟨w.heap.size + 1, 4, none⟩ (.int .i64 0)).setCell ⟨w.heap.size + 1, 5, none⟩ (.slice none 0 0)).setCell ⟨w.heap.size + 1, 6, none⟩ (.int .i64 0)) := ⟨_, rfl⟩
    rw [← hY] at hb7 ho7 ⊢
    have k0 := blk_cell hb7 0
    have k1 := blk_cell hb7 1
    have k2 := blk_cell hb7 2
    have k3 := blk_cell hb7 3
    have k4 := blk_cell hb7 4
    have k5 := blk_cell hb7 5
    have k6 := blk_cell hb7 6
    simp at k0 k1 k2 k3 k4 k5 k6
    refine bodyPost_ret (v := errV e) ?_ rfl ?_
    · simp [results, Tryz.results29, go_sem, errV, k0, k1, k2, k3, k4, k5, k6]
    · exact ⟨rfl, by have h1 := HBB.out.trans (HB3.out.mono HBB.out.size); exact (Only.of_below (S := fun _ => False) h1 (fun k h1 h2 => by omega) |>.trans ho7 (fun i hi => .inr (by omega))).below (Nat.le_refl _) (fun _ h => h.elim)⟩
end Go.Proofs.YtehaoeclnmelhacGreat
