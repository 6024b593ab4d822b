/-
  A lock is granted; a holder goes: grant, drop.
-/
import Derived.Test.YtoediflikoedaaaLkOps
namespace Go.Proofs.Ytoediflikoedaaa
open Go Go.Proofs Go.RowKit Go.Shelf
open Go.ChangeMaps (setBlock)
attribute [local go_sem] Oper.semAt_some
theorem drew_below (w : World) : Below w.heap.size w w.drew := ⟨rfl, rfl, rfl, Nat.le_refl _, fun _ _ => rfl⟩
def lkO (l : Lk) : Obj := .cells #[.int .i64 l.th, .int .i64 l.tg, .bool l.al] 31
theorem box_cells {w W : World} {l : Lk} (hO : W.heap[w.heap.size]? = some (lkO l)) : W.cell? ⟨w.heap.size, 0, none⟩ = some (.int .i64 l.th) ∧ W.cell? ⟨w.heap.size, 1, none⟩ = some (.int .i64 l.tg) ∧ W.cell? ⟨w.heap.size, 2, none⟩ = some (.bool l.al) := by
  refine ⟨?_, ?_, ?_⟩ <;> (rw [blk_cell hO]; rfl)
section
variable {F : Nat → Prop} {w : World} {t : Nat} {D : Td}
set_option maxRecDepth 100000 in
set_option maxHeartbeats 4000000 in
theorem grant_none (h : TbAt F w t D) (l : Lk) (hl : l.wf) {hb : Nat} (hh : D.hm = some hb) (hn : D.nh ≤ 1000000) (hi : D.held l.tg = none) :
    Calls Try.prog 27 #[ptV t, lkV l] w fun e w' => e = .returned (.tuple #[]) ∧ ∃ x : Hx, x.S = [l.th] ∧ x.al = l.al ∧ Hid (TbAt (Grown F w) w' t { D with nh := D.nh + 1, held := updC D.held l.tg (some x) } ∧ Only F w w') := by
  obtain ⟨w0, hw0⟩ : ∃ w0, w0 = w.alloc (lkO l) := ⟨_, rfl⟩
  have hs0 : w0.drew.heap.size = w.heap.size + 1 := by rw [hw0]; simp
  have hB0 : Below w.heap.size w w0.drew := by
    have := (Below.refl w.heap.size w).alloc (Nat.le_refl _) (lkO l)
    rw [hw0]
    exact this.trans ((drew_below _).mono (by simp))
  have x0 : w0.drew.heap[w.heap.size]? = some (lkO l) := by rw [hw0]; exact blk_new w _
  have h0 := h.below hB0
  have c0 := h0.cells.1
  rw [hh] at c0
  obtain ⟨_, c2, _⟩ := box_cells (w := w) x0
  have q1 := h0.lookH_none hl.2 hi
  rw [hh] at q1
  obtain ⟨w2, hw2⟩ : ∃ w2, w2 = w0.drew.alloc (.map #[] 0) := ⟨_, rfl⟩
  have hs2 : w2.heap.size = w.heap.size + 2 := by rw [hw2]; simp [hs0]
  have hB2 : Below w0.drew.heap.size w0.drew w2 := by rw [hw2]; exact (Below.refl _ _).alloc (Nat.le_refl _) _
  have x2 : w2.heap[w.heap.size]? = some (lkO l) := (hB2.block _ (by omega)).trans x0
  obtain ⟨_, _, d3⟩ := box_cells (w := w) x2
  have r1 : ∀ ty, (Instr.makeMap ty none).run Try.prog w0.drew = .ok (.map (some (w.heap.size + 1))) w2 := fun ty => by
    rw [run_makeMap, hw2, hs0]
  have hSm : StAt w2 (some (w.heap.size + 1)) [] := by
    have := StAt.new w0.drew
    rw [hs0, ← hw2] at this
    exact this
  obtain ⟨w3, hw3⟩ : ∃ w3, w3 = w2.alloc (.cells #[.map (some (w.heap.size + 1)), .bool l.al] 68) := ⟨_, rfl⟩
  have hs3 : w3.heap.size = w.heap.size + 3 := by rw [hw3]; simp [hs2]
  have hB3 : Below w2.heap.size w2 w3.drew := by
    rw [hw3]
    exact ((Below.refl w2.heap.size w2).alloc (Nat.le_refl _) _).trans ((drew_below _).mono (by simp))
  have y3 : w3.drew.heap[w2.heap.size]? = some (.cells #[.map (some (w.heap.size + 1)), .bool l.al] 68) := by rw [hw3]; exact blk_new w2 _
  have x3 : w3.drew.heap[w.heap.size]? = some (lkO l) := (hB3.block _ (by omega)).trans x2
  have h3 : TbAt F w3.drew t D := (h0.below hB2).below hB3
  have e0 := h3.cells.1
  rw [hh] at e0
  obtain ⟨_, e2, _⟩ := box_cells (w := w) x3
  have hSm3 : StAt w3.drew (some (w.heap.size + 1)) [] := hSm.kept (fun b hb => hB3.block b (by cases hb; omega))
  obtain ⟨o1, p1, hm1⟩ := h3.hput hh hn hl.2 hi w2.heap.size
  obtain ⟨hFb, hbl, hbt⟩ := h3.hown hh
  have hblw : hb < w.heap.size := (h.hown hh).2.1
  obtain ⟨w4, hw4⟩ : ∃ w4, w4 = setBlock w3.drew hb o1 := ⟨_, rfl⟩
  have k4 : ∀ k, k ≠ hb → w4.drew.heap[k]? = w3.drew.heap[k]? := fun k hk => by rw [hw4]; exact heap_set_other hk
  have hs4 : w4.drew.heap.size = w.heap.size + 3 := by rw [hw4]; show (setBlock w3.drew hb o1).heap.size = _; rw [size_setBlock]; exact hs3
  have x4 : w4.drew.heap[w.heap.size]? = some (lkO l) := (k4 _ (by omega)).trans x3
  have y4 : w4.drew.heap[w2.heap.size]? = some (.cells #[.map (some (w.heap.size + 1)), .bool l.al] 68) := (k4 _ (by omega)).trans y3
  have g1 : w4.drew.cell? ⟨w2.heap.size, 0, none⟩ = some (.map (some (w.heap.size + 1))) := by rw [blk_cell y4]; rfl
  obtain ⟨g2, _, _⟩ := box_cells (w := w) x4
  have hSm4 : StAt w4.drew (some (w.heap.size + 1)) [] := hSm3.kept (fun b hb => by cases hb; exact k4 _ (by omega))
  obtain ⟨o2, p2, hS5⟩ := hSm4.put (by unfold maxLen; simp) hl.1
  have hm4 : MAt w4.drew 3 hb (D.nh + 1) (intF ptV (updC (fun j => (D.held j).map (fun z => z.b)) l.tg (some w2.heap.size))) := by rw [hw4]; exact MAt.kept hm1 rfl
  obtain ⟨w5, hw5⟩ : ∃ w5, w5 = setBlock w4.drew (w.heap.size + 1) o2 := ⟨_, rfl⟩
  have k5 : ∀ k, k ≠ w.heap.size + 1 → w5.heap[k]? = w4.drew.heap[k]? := fun k hk => by rw [hw5]; exact heap_set_other hk
  have hs5 : w5.heap.size = w.heap.size + 3 := by rw [hw5, size_setBlock]; exact hs4
  have hO5 : Only (fun k => k = hb) w w5 := by
    have a1 : Only (fun k => k = hb) w w3.drew := (Only.of_new _ hB0).trans ((Only.of_new (fun _ => False) hB2).trans (Only.of_new (fun _ => False) hB3) (fun _ q => q.elim)) (fun _ q => q.elim)
    have a2 : Only (fun k => k = hb) w w4.drew := by rw [hw4]; exact (a1.setBlock (.inl rfl) o1).drew
    rw [hw5]
    exact a2.setBlock (.inr (by omega)) o2
  have HF : Hid (TbAt (Grown F w) w5 t { D with nh := D.nh + 1, held := updC D.held l.tg (some ⟨w2.heap.size, w.heap.size + 1, [l.th], l.al⟩) } ∧ Only F w w5) := Hid.mk ⟨h.heldAdd hh hi hO5 (by show w.heap.size ≤ w2.heap.size; omega) (by show w.heap.size ≤ w.heap.size + 1; omega) (by show w2.heap.size ≠ w.heap.size + 1; omega) (by show w2.heap.size < w5.heap.size; omega) (by show w.heap.size + 1 < w5.heap.size; omega) (fun k hk => .inl hk) (.inr (by show w.heap.size ≤ w2.heap.size; omega)) (.inr (by show w.heap.size ≤ w.heap.size + 1; omega)) ((k5 w2.heap.size (by omega)).trans y4) (by rw [hw5]; exact hS5) (hm4.kept (k5 hb (by omega))), hO5.mono (fun k _ hk => by rw [hk]; exact hFb)⟩
  have q2 := eqp_none
  have hw5' := hw5.symm
  rw [hw5'] at p2
  have hw4' := hw4.symm
  rw [hw4'] at p1
  clear h h0 h3 hB0 hB2 hB3 x0 x2 x3 x4 y3 y4 hSm hSm3 hSm4 hm1 hm4 hS5 k4 k5 hs0 hs3 hs4 hs5 hO5 hFb hbl hbt hblw hi hn hw5 hw4 hw5' hw2
  rw [hs2] at p1 g1 HF
  unfold lkO at hw0
  unfold lkV
  go_enter Try.func27, Try.ntmps27
  go_wp2
  rw [← hw0]
  clear hw0
  go_region
  go_wp2
  rw [← hw3]
  clear hw3
  go_region
  go_wp2
  go_region
  go_wp2
  go_end0
  exact ⟨rfl, _, rfl, rfl, HF⟩
end
end Go.Proofs.Ytoediflikoedaaa
