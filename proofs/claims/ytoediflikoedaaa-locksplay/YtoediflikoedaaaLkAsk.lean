/-
  Ask.
-/
import Derived.Test.YtoediflikoedaaaLkWait
namespace Go.Proofs.Ytoediflikoedaaa
open Go Go.Proofs Go.RowKit Go.Shelf
open Go.ChangeMaps (setBlock)
attribute [local go_sem] Oper.semAt_some
def Td.St (D : Td) : Prop := D = Td.none ∨ D.Made
/-- N: how often it was asked. -/
def Fit (N : Nat) (D : Td) : Prop := (∃ B, HB B D ∧ B + D.nw ≤ N) ∧ RB N D
theorem Fit.none : Fit 0 Td.none := ⟨⟨0, ⟨Nat.le_refl _, fun i x h => by cases h⟩, Nat.le_refl _⟩, Nat.le_refl _, fun i x h => by cases h⟩
theorem Fit.made (N a b c : Nat) : Fit N (Td.made a b c) := ⟨⟨0, ⟨Nat.le_refl _, fun i x h => by cases h⟩, Nat.zero_le _⟩, Nat.zero_le _, fun i x h => by cases h⟩
theorem Fit.mono {N M : Nat} {D : Td} (h : Fit N D) (hm : N ≤ M) : Fit M D := by
  obtain ⟨⟨B, h1, h2⟩, h3, h4⟩ := h
  exact ⟨⟨B, h1, by omega⟩, by omega, fun i x hi => by have := h4 i x hi; omega⟩
theorem stepL_store {P : Program} {md : Region.Mode} {ops : Array Oper} {Q : Exit → Act → World → Prop} {S : World → Prop} {L fuel : Nat} {listed : Array Bool} {t : Array Value} {w : World} (i : Nat) (w' : World) {oi : Oper} (hi : ops[i]? = some oi) (hd : oi.dst = none) (hr : Region.ready md ops listed = [i]) (hw : Region.wanted oi (yielded ops t) = true)
    (hrun : (execOp (Act.eval { tmps := t, defers := [] }) oi).run P w = .ok .skip w') (hS : S w')
    (h : Butt P md ops Q S L fuel (listed.setIfInBounds i true) { tmps := t, defers := [] } w') : Butt P md ops Q S L (fuel + 1) listed { tmps := t, defers := [] } w := by
  refine ⟨fun h0 => (by rw [hr] at h0; cases h0), fun j hj => ?_⟩
  rw [hr] at hj
  obtain rfl : j = i := by simpa using hj
  unfold wpOp
  rw [hi]
  dsimp only
  rw [if_pos hw]
  left
  unfold Oper.wp
  rw [hrun, Oper.upon_skip, show (Act.put { tmps := t, defers := [] } oi.dst undef) = { tmps := t, defers := [] } from by simp [Act.put, hd]]
  exact ⟨fun _ => hS, h⟩
theorem doneL {P : Program} {md : Region.Mode} {ops : Array Oper} {Q : Exit → Act → World → Prop} {S : World → Prop} {L fuel : Nat} {listed : Array Bool} {a : Act} {w : World} (hn : Region.ready md ops listed = []) (h : Q .normal a w) : Butt P md ops Q S L fuel listed a w := by
  cases fuel with
  | zero => exact ⟨hn, h⟩
  | succ m => exact ⟨fun _ => h, by rw [hn]; simp⟩
theorem exec_allocL {ev : Operand → Value} {oi : Oper} {W : World} (ho : oi.op = .alloc 31) : (execOp ev oi).run Try.prog W = .ok (.value (.pointer (some ⟨W.heap.size, 0, none⟩))) (W.alloc (lkO Lk.zero)) := by
  unfold execOp lkO
  simp only [ho]
  go_simp
  rfl
/-- A lock into a variable. -/
theorem exec_storeL {W : World} {b : Nat} {l0 l : Lk} (hb : W.heap[b]? = some (lkO l0)) : ∃ W', (∀ (ev : Operand → Value) (oi : Oper) (p x : Operand), oi.op = .store 31 p x → ev p = .pointer (some ⟨b, 0, none⟩) → ev x = lkV l → (execOp ev oi).run Try.prog W = .ok .skip W') ∧ W'.heap[b]? = some (lkO l) ∧ Only (fun k => k = b) W W' := by
  unfold lkO at hb
  have b1 := blk_set (i := 0) (u := .int .i64 l.th) hb
  have b2 := blk_set (i := 1) (u := .int .i64 l.tg) b1
  have b3 := blk_set (i := 2) (u := .bool l.al) b2
  have c0 : W.cell? ⟨b, 0, none⟩ = some (.int .i64 l0.th) := by rw [blk_cell hb]; rfl
  have c1 : (W.setCell ⟨b, 0, none⟩ (.int .i64 l.th)).cell? ⟨b, 1, none⟩ = some (.int .i64 l0.tg) := by rw [blk_cell b1]; rfl
  have c2 : ((W.setCell ⟨b, 0, none⟩ (.int .i64 l.th)).setCell ⟨b, 1, none⟩ (.int .i64 l.tg)).cell? ⟨b, 2, none⟩ = some (.bool l0.al) := by rw [blk_cell b2]; rfl
  have f0 : W.frozen? ⟨b, 0, none⟩ = false := blk_free hb 0
  have f1 : (W.setCell ⟨b, 0, none⟩ (.int .i64 l.th)).frozen? ⟨b, 1, none⟩ = false := blk_free b1 1
  have f2 : ((W.setCell ⟨b, 0, none⟩ (.int .i64 l.th)).setCell ⟨b, 1, none⟩ (.int .i64 l.tg)).frozen? ⟨b, 2, none⟩ = false := blk_free b2 2
  refine ⟨((W.setCell ⟨b, 0, none⟩ (.int .i64 l.th)).setCell ⟨b, 1, none⟩ (.int .i64 l.tg)).setCell ⟨b, 2, none⟩ (.bool l.al), fun ev oi p x ho hp hx => ?_, ?_, ?_⟩
  · unfold execOp
    unfold lkV at hx
    simp only [ho, hp, hx]
    go_simp
  · rw [b3]
    rfl
  · exact (((Only.refl (fun k => k = b) W).setCell (p := ⟨b, 0, none⟩) (.inl rfl) _).setCell (p := ⟨b, 1, none⟩) (.inl rfl) _).setCell (p := ⟨b, 2, none⟩) (.inl rfl) _
section
variable {F : Nat → Prop} {w : World} {t : Nat} {D : Td}
theorem start_any (h : TbAt F w t D) (hst : D.St) {N : Nat} (hf : Fit N D) : Calls Try.prog 25 #[ptV t] w fun e w' => e = .returned (.tuple #[]) ∧ ∃ D', Hid (TbAt (Grown F w) w' t D' ∧ Only F w w' ∧ D'.Made ∧ D'.abs = D.abs ∧ Fit N D') := by
  rcases hst with rfl | hM
  · refine (start_new h).mono ?_
    rintro e w' ⟨rfl, a, b, c, h1, h2⟩
    exact ⟨rfl, _, Hid.mk ⟨h1, h2.mono (fun k _ hk => by rw [hk]; exact h.top.1), ⟨_, _, _, rfl, rfl, rfl⟩, rfl, Fit.made _ _ _ _⟩⟩
  · refine (start_made h hM).mono ?_
    rintro e w' ⟨rfl, rfl⟩
    exact ⟨rfl, D, Hid.mk ⟨h.mono (fun k _ hk => .inl hk), Only.refl _ _, hM, rfl, hf⟩⟩
/-- What the first region of Ask leans on, and leaves. -/
theorem ask_pre (h : TbAt F w t D) (l : Lk) (hl : l.wf) (w0 : World) (hw0 : w0 = w.alloc (lkO l)) (l1 : Lk) : ∃ w2,
    (∀ W, (W = w0.drew ∨ W = w0.drew.alloc (lkO Lk.zero) ∨ W = w2) → W.cell? ⟨t, 2, none⟩ = some (.map D.wm) ∧ W.cell? ⟨w.heap.size, 0, none⟩ = some (.int .i64 l.th) ∧ W.cell? ⟨w.heap.size, 1, none⟩ = some (.int .i64 l.tg) ∧ W.cell? ⟨w.heap.size, 2, none⟩ = some (.bool l.al) ∧ (Instr.lookup 52 (.map D.wm) (.int .i64 l.th) true).run Try.prog W = .ok (.tuple #[lkV ((D.waits l.th).getD Lk.zero), .bool (D.waits l.th).isSome]) W) ∧
    (∀ (ev : Operand → Value) (oi : Oper) (p x : Operand), oi.op = .store 31 p x → ev p = .pointer (some ⟨w0.drew.heap.size, 0, none⟩) → ev x = lkV l1 → (execOp ev oi).run Try.prog (w0.drew.alloc (lkO Lk.zero)) = .ok .skip w2) ∧ Below w.heap.size w w2 ∧ w2.heap[w.heap.size]? = some (lkO l) ∧ w.heap.size < w2.heap.size := by
  have hs0 : w0.drew.heap.size = w.heap.size + 1 := by rw [hw0]; simp
  have hs1 : (w0.drew.alloc (lkO Lk.zero)).heap.size = w.heap.size + 2 := by rw [hw0]; simp
  have hB0 : Below w.heap.size w w0.drew := by
    have := (Below.refl w.heap.size w).alloc (Nat.le_refl _) (lkO l)
    rw [hw0]
    exact this.trans ((drew_below _).mono (by simp))
  have x0 : w0.drew.heap[w.heap.size]? = some (lkO l) := by rw [hw0]; exact blk_new w _
  obtain ⟨w2, p2, _, hO2⟩ := exec_storeL (W := w0.drew.alloc (lkO Lk.zero)) (l := l1) (blk_new w0.drew (lkO Lk.zero))
  have hB1 : Below w.heap.size w (w0.drew.alloc (lkO Lk.zero)) := hB0.alloc (by omega) _
  have x1 : (w0.drew.alloc (lkO Lk.zero)).heap[w.heap.size]? = some (lkO l) := (Below.heap_alloc _ _ _ (by omega)).trans x0
  have hB2 : Below w.heap.size w w2 := hB1.trans (hO2.below (by omega) (fun k hk => by rw [hk]; omega))
  have x2 : w2.heap[w.heap.size]? = some (lkO l) := (hO2.block _ (by omega) (by omega)).trans x1
  refine ⟨w2, fun W hW => ?_, p2, hB2, x2, lt_of_block x2⟩
  have hh : Below w.heap.size w W ∧ W.heap[w.heap.size]? = some (lkO l) := by
    rcases hW with rfl | rfl | rfl
    · exact ⟨hB0, x0⟩
    · exact ⟨hB1, x1⟩
    · exact ⟨hB2, x2⟩
  have hT := h.below hh.1
  obtain ⟨b0, b1, b2⟩ := box_cells (w := w) hh.2
  exact ⟨hT.cells.2.2, b0, b1, b2, hT.lookW hl.1⟩
set_option maxRecDepth 100000 in
set_option maxHeartbeats 4000000 in
theorem ask_waits (h : TbAt F w t D) (l : Lk) (hl : l.wf) {l' : Lk} (hw : D.waits l.th = some l') : Calls Try.prog 11 #[ptV t, lkV l] w fun e w' => e = .returned (.bool false) ∧ Below w.heap.size w w' := by
  obtain ⟨w0, hw0⟩ : ∃ w0, w0 = w.alloc (lkO l) := ⟨_, rfl⟩
  obtain ⟨w2, hS, hst, hB2, x2, hlt⟩ := ask_pre h l hl w0 hw0 l'
  simp only [hw, Option.getD_some, Option.isSome_some] at hS
  have hH := hS _ (.inl rfl)
  have HS1 := Hid.mk (hS _ (.inr (.inl rfl)))
  have HS2 := Hid.mk (hS _ (.inr (.inr rfl)))
  have HST := Hid.mk hst
  have HB2 := Hid.mk hB2
  clear h hS hst hB2 x2 hlt hw
  unfold lkO at hw0
  rw [show lkV l = .agg #[.int .i64 l.th, .int .i64 l.tg, .bool l.al] from rfl]
  go_enter Try.func11, Try.ntmps11
  go_wp2
  rw [← hw0]
  clear hw0
  refine wp_region_but 12 (fun W => W.cell? ⟨t, 2, none⟩ = some (.map D.wm) ∧ W.cell? ⟨w.heap.size, 0, none⟩ = some (.int .i64 l.th) ∧ W.cell? ⟨w.heap.size, 1, none⟩ = some (.int .i64 l.tg) ∧ W.cell? ⟨w.heap.size, 2, none⟩ = some (.bool l.al) ∧ (Instr.lookup 52 (.map D.wm) (.int .i64 l.th) true).run Try.prog W = .ok (.tuple #[lkV l', .bool true]) W) (by kernel_rfl) hH (fun hH => ?_)
  refine takeL 0 8 (.pointer (some ⟨t, 0, none⟩)) rfl (by kernel_rfl) (by kernel_rfl) (by kernel_rfl) (by kernel_rfl) (by kernel_rfl) (fun _ _ _ h => h) (by kernel_rfl) (fun w hw => by kernel_rfl) hH ?_
  simp only [List.setIfInBounds_toArray, List.set_cons_zero, List.set_cons_succ]
  refine takeL 1 9 (.pointer (some ⟨t, 0, none⟩)) rfl (by kernel_rfl) (by kernel_rfl) (by kernel_rfl) (by kernel_rfl) (by kernel_rfl) (fun _ _ _ h => h) (by kernel_rfl) (fun w hw => by go_simp) hH ?_
  simp only [List.setIfInBounds_toArray, List.set_cons_zero, List.set_cons_succ]
  refine takeL 2 10 (.pointer (some ⟨t, 2, none⟩)) rfl (by kernel_rfl) (by kernel_rfl) (by kernel_rfl) (by kernel_rfl) (by kernel_rfl) (fun _ _ _ h => h) (by kernel_rfl) (fun w hw => by go_simp) hH ?_
  simp only [List.setIfInBounds_toArray, List.set_cons_zero, List.set_cons_succ]
  refine takeL 3 11 (.map D.wm) rfl (by kernel_rfl) (by kernel_rfl) (by kernel_rfl) (by kernel_rfl) (by kernel_rfl) (fun _ _ _ h => h) (by kernel_rfl) (fun w hw => by (try dsimp only at hw); obtain ⟨hw1, hw2, hw3, hw4, hw5⟩ := hw; go_simp) hH ?_
  simp only [List.setIfInBounds_toArray, List.set_cons_zero, List.set_cons_succ]
  refine takeL 4 12 (.pointer (some ⟨w.heap.size, 0, none⟩)) rfl (by kernel_rfl) (by kernel_rfl) (by kernel_rfl) (by kernel_rfl) (by kernel_rfl) (fun _ _ _ h => h) (by kernel_rfl) (fun w hw => by go_simp) hH ?_
  simp only [List.setIfInBounds_toArray, List.set_cons_zero, List.set_cons_succ]
  refine takeL 5 13 (.int .i64 l.th) rfl (by kernel_rfl) (by kernel_rfl) (by kernel_rfl) (by kernel_rfl) (by kernel_rfl) (fun _ _ _ h => h) (by kernel_rfl) (fun w hw => by (try dsimp only at hw); obtain ⟨hw1, hw2, hw3, hw4, hw5⟩ := hw; go_simp) hH ?_
  simp only [List.setIfInBounds_toArray, List.set_cons_zero, List.set_cons_succ]
  refine takeL 6 14 (.tuple #[lkV l', .bool true]) rfl (by kernel_rfl) (by kernel_rfl) (by kernel_rfl) (by kernel_rfl) (by kernel_rfl) (fun _ _ _ h => h) (by kernel_rfl) (fun w hw => by (try dsimp only at hw); obtain ⟨hw1, hw2, hw3, hw4, hw5⟩ := hw; go_simp) hH ?_
  simp only [List.setIfInBounds_toArray, List.set_cons_zero, List.set_cons_succ]
  refine takeL 7 7 (.tuple #[lkV l', .bool true]) rfl (by kernel_rfl) (by kernel_rfl) (by kernel_rfl) (by kernel_rfl) (by kernel_rfl) (fun _ _ _ h => h) (by kernel_rfl) (fun w hw => by kernel_rfl) hH ?_
  simp only [List.setIfInBounds_toArray, List.set_cons_zero, List.set_cons_succ]
  refine takeL 8 15 (lkV l') rfl (by kernel_rfl) (by kernel_rfl) (by kernel_rfl) (by kernel_rfl) (by kernel_rfl) (fun _ _ _ h => h) (by kernel_rfl) (fun w hw => by kernel_rfl) hH ?_
  simp only [List.setIfInBounds_toArray, List.set_cons_zero, List.set_cons_succ]
  refine takeL 9 16 (.bool true) rfl (by kernel_rfl) (by kernel_rfl) (by kernel_rfl) (by kernel_rfl) (by kernel_rfl) (fun _ _ _ h => h) (by kernel_rfl) (fun w hw => by kernel_rfl) hH ?_
  simp only [List.setIfInBounds_toArray, List.set_cons_zero, List.set_cons_succ]
  refine stepL_run 10 5 (.pointer (some ⟨w0.drew.heap.size, 0, none⟩)) (w0.drew.alloc (lkO Lk.zero)) rfl (by kernel_rfl) (by kernel_rfl) (by kernel_rfl) (exec_allocL (by kernel_rfl)) HS1.out ?_
  simp only [List.setIfInBounds_toArray, List.set_cons_zero, List.set_cons_succ]
  refine stepL_store 11 w2 rfl (by kernel_rfl) (by kernel_rfl) (by kernel_rfl) (HST.out _ _ (.tmp 5) (.tmp 15) (by kernel_rfl) (by kernel_rfl) (by kernel_rfl)) HS2.out ?_
  refine stepL_run 12 6 (.bool true) w2 rfl (by kernel_rfl) (by kernel_rfl) (by kernel_rfl) (by kernel_rfl) HS2.out ?_
  simp only [List.setIfInBounds_toArray, List.set_cons_zero, List.set_cons_succ]
  refine doneL (by kernel_rfl) ?_
  go_wp2
  go_ret
  exact ⟨rfl, HB2.out⟩
/-- What may be owned, of what there was. -/
def Old (F : Nat → Prop) (w : World) : Nat → Prop := fun k => F k ∧ k < w.heap.size
theorem TbAt.old (h : TbAt F w t D) : TbAt (Old F w) w t D := h.mono (fun _ hk hF => ⟨hF, hk⟩)
/-- What Ask has to its end: N times it was asked before. -/
def AskTo (F : Nat → Prop) (w : World) (t : Nat) (A : Ta) (N : Nat) (w' : World) (D' : Td) : Prop := TbAt (Grown F w) w' t D' ∧ Only F w w' ∧ D'.abs = A ∧ D'.St ∧ Fit (N + 1) D'
theorem ask_facts (l : Lk) (hl : l.wf) (hw : D.waits l.th = none) {N : Nat} (hN : N < 1000000) {w2 w3 w4 : World} {D4 : Td} (hB2 : Below w.heap.size w w2) (x2 : w2.heap[w.heap.size]? = some (lkO l)) (hB3 : Below w2.heap.size w2 w3)
    (h4 : TbAt (Grown (Old F w) w3) w4 t D4) (hO4 : Only (Old F w) w3 w4) (hM : D4.Made) (ha : D4.abs = D.abs) (hf : Fit N D4) (W : World) (hB : Below w4.heap.size w4 W) :
    (W.cell? ⟨t, 1, none⟩ = some (.map D4.rm)) ∧ (W.cell? ⟨w.heap.size, 0, none⟩ = some (.int .i64 l.th) ∧ W.cell? ⟨w.heap.size, 1, none⟩ = some (.int .i64 l.tg) ∧ W.cell? ⟨w.heap.size, 2, none⟩ = some (.bool l.al)) ∧
    (Instr.lookup 51 (.map D4.rm) (.int .i64 l.tg) false).run Try.prog W = .ok (optP ((D4.rows l.tg).map (fun y => y.b))) W ∧
    Calls Try.prog 26 #[ptV t, lkV l] W (fun e w' => e = .returned (.bool (besB (D.abs.held l.tg) l.al)) ∧ Below W.heap.size W w') ∧
    Calls Try.prog 27 #[ptV t, lkV l] W (fun e w' => e = .returned (.tuple #[]) ∧ ∃ D', Hid (AskTo F w t (D.abs.grant l) N w' D')) ∧
    Calls Try.prog 28 #[ptV t, lkV l] W (fun e w' => e = .returned (.tuple #[]) ∧ ∃ D', Hid (AskTo F w t (D.abs.wait l) N w' D')) := by
  have hT := h4.below hB
  have hlt := lt_of_block x2
  have x3 : w3.heap[w.heap.size]? = some (lkO l) := (hB3.block _ hlt).trans x2
  have hs3 := hB3.size
  have hs4 := hO4.size
  have hsW := hB.size
  have x4 : w4.heap[w.heap.size]? = some (lkO l) := (hO4.block _ (by omega) (fun q => by have := q.2; omega)).trans x3
  have xW : W.heap[w.heap.size]? = some (lkO l) := (hB.block _ (lt_of_block x4)).trans x4
  have hOW : Only F w W := (((Only.of_new F hB2).trans (Only.of_new (fun _ => False) hB3) (fun k q => q.elim)).trans hO4 (fun k q => .inl q.1)).trans (Only.of_new (fun _ => False) hB) (fun k q => q.elim)
  have hs2 := hB2.size
  have hw4 : D4.waits l.th = none := by
    have : D4.abs.waits = D.abs.waits := by rw [ha]
    exact (congrFun this l.th).trans hw
  have grow : ∀ k, Grown (Grown (Old F w) w3) W k → Grown F w k := fun k q => by
    rcases q with (q | q) | q
    · exact .inl q.1
    · exact .inr (by omega)
    · exact .inr (by omega)
  have only : ∀ w', Only (Grown (Old F w) w3) W w' → Only F w w' := fun w' q => hOW.trans q (fun k r => r.imp (fun r => r.1) (fun r => by omega))
  obtain ⟨⟨B, hB1, hB2'⟩, hR⟩ := hf
  refine ⟨hT.cells.2.1, box_cells xW, hT.lookR hl.2, ?_, ?_, ?_⟩
  · rw [← ha]
    exact fits_any hT l hl
  · refine (grant_any hT l hl hM hB1 (by omega)).mono ?_
    rintro e w' ⟨rfl, D', HQ⟩
    obtain ⟨a1, a2, a3, a4, a5⟩ := HQ.out
    refine ⟨rfl, D', Hid.mk ⟨a1.mono (fun k _ q => grow k q), only w' a2, by rw [a3, ha], .inr ?_, ⟨B + 1, a5, by rw [a4.nw]; omega⟩, ?_⟩⟩
    · obtain ⟨x, y, z, q1, q2, q3⟩ := hM
      exact ⟨x, y, z, a4.hm.trans q1, a4.rm.trans q2, a4.wm.trans q3⟩
    · refine ⟨by rw [a4.nr]; have := hR.1; omega, fun i x hi => ?_⟩
      rw [a4.rows] at hi
      have := hR.2 i x hi
      omega
  · refine (wait_any hT l hl hM hw4 (by omega) hR (by omega)).mono ?_
    rintro e w' ⟨rfl, D', HQ⟩
    obtain ⟨a1, a2, a3, a4, a5, a6⟩ := HQ.out
    refine ⟨rfl, D', Hid.mk ⟨a1.mono (fun k _ q => grow k q), only w' a2, by rw [a3, ha], .inr ?_, ⟨B, ⟨by rw [a4.nh]; exact hB1.1, fun i x hi => ?_⟩, by rw [a5]; omega⟩, a6⟩⟩
    · obtain ⟨x, y, z, q1, q2, q3⟩ := hM
      exact ⟨x, y, z, a4.hm.trans q1, a4.rm.trans q2, a4.wm.trans q3⟩
    · rw [a4.held] at hi
      exact hB1.2 i x hi
set_option maxRecDepth 100000 in
set_option maxHeartbeats 4000000 in
theorem ask_holds (h : TbAt F w t D) (l : Lk) (hl : l.wf) (hw : D.waits l.th = none) (hh : D.abs.holds l.th l.tg = true) : Calls Try.prog 11 #[ptV t, lkV l] w fun e w' => e = .returned (.bool false) ∧ Below w.heap.size w w' := by
  obtain ⟨w0, hw0⟩ : ∃ w0, w0 = w.alloc (lkO l) := ⟨_, rfl⟩
  obtain ⟨w2, hS, hst, hB2, x2, hlt⟩ := ask_pre h l hl w0 hw0 Lk.zero
  simp only [hw, Option.getD_none, Option.isSome_none] at hS
  have hH := hS _ (.inl rfl)
  have HS1 := Hid.mk (hS _ (.inr (.inl rfl)))
  have HS2 := Hid.mk (hS _ (.inr (.inr rfl)))
  obtain ⟨_, d1, d2, d3, _⟩ := HS2.out
  have HST := Hid.mk hst
  have HB2 := Hid.mk hB2
  have HHO := Hid.mk (holds_any (h.below hB2) l.th l.tg hl.1 hl.2)
  rw [hh] at HHO
  clear h hS hst hB2 x2 hlt hw hh
  unfold lkO at hw0
  rw [show lkV l = .agg #[.int .i64 l.th, .int .i64 l.tg, .bool l.al] from rfl]
  go_enter Try.func11, Try.ntmps11
  go_wp2
  rw [← hw0]
  clear hw0
  refine wp_region_but 12 (fun W => W.cell? ⟨t, 2, none⟩ = some (.map D.wm) ∧ W.cell? ⟨w.heap.size, 0, none⟩ = some (.int .i64 l.th) ∧ W.cell? ⟨w.heap.size, 1, none⟩ = some (.int .i64 l.tg) ∧ W.cell? ⟨w.heap.size, 2, none⟩ = some (.bool l.al) ∧ (Instr.lookup 52 (.map D.wm) (.int .i64 l.th) true).run Try.prog W = .ok (.tuple #[lkV Lk.zero, .bool false]) W) (by kernel_rfl) hH (fun hH => ?_)
  refine takeL 0 8 (.pointer (some ⟨t, 0, none⟩)) rfl (by kernel_rfl) (by kernel_rfl) (by kernel_rfl) (by kernel_rfl) (by kernel_rfl) (fun _ _ _ h => h) (by kernel_rfl) (fun w hw => by kernel_rfl) hH ?_
  simp only [List.setIfInBounds_toArray, List.set_cons_zero, List.set_cons_succ]
  refine takeL 1 9 (.pointer (some ⟨t, 0, none⟩)) rfl (by kernel_rfl) (by kernel_rfl) (by kernel_rfl) (by kernel_rfl) (by kernel_rfl) (fun _ _ _ h => h) (by kernel_rfl) (fun w hw => by go_simp) hH ?_
  simp only [List.setIfInBounds_toArray, List.set_cons_zero, List.set_cons_succ]
  refine takeL 2 10 (.pointer (some ⟨t, 2, none⟩)) rfl (by kernel_rfl) (by kernel_rfl) (by kernel_rfl) (by kernel_rfl) (by kernel_rfl) (fun _ _ _ h => h) (by kernel_rfl) (fun w hw => by go_simp) hH ?_
  simp only [List.setIfInBounds_toArray, List.set_cons_zero, List.set_cons_succ]
  refine takeL 3 11 (.map D.wm) rfl (by kernel_rfl) (by kernel_rfl) (by kernel_rfl) (by kernel_rfl) (by kernel_rfl) (fun _ _ _ h => h) (by kernel_rfl) (fun w hw => by (try dsimp only at hw); obtain ⟨hw1, hw2, hw3, hw4, hw5⟩ := hw; go_simp) hH ?_
  simp only [List.setIfInBounds_toArray, List.set_cons_zero, List.set_cons_succ]
  refine takeL 4 12 (.pointer (some ⟨w.heap.size, 0, none⟩)) rfl (by kernel_rfl) (by kernel_rfl) (by kernel_rfl) (by kernel_rfl) (by kernel_rfl) (fun _ _ _ h => h) (by kernel_rfl) (fun w hw => by go_simp) hH ?_
  simp only [List.setIfInBounds_toArray, List.set_cons_zero, List.set_cons_succ]
  refine takeL 5 13 (.int .i64 l.th) rfl (by kernel_rfl) (by kernel_rfl) (by kernel_rfl) (by kernel_rfl) (by kernel_rfl) (fun _ _ _ h => h) (by kernel_rfl) (fun w hw => by (try dsimp only at hw); obtain ⟨hw1, hw2, hw3, hw4, hw5⟩ := hw; go_simp) hH ?_
  simp only [List.setIfInBounds_toArray, List.set_cons_zero, List.set_cons_succ]
  refine takeL 6 14 (.tuple #[lkV Lk.zero, .bool false]) rfl (by kernel_rfl) (by kernel_rfl) (by kernel_rfl) (by kernel_rfl) (by kernel_rfl) (fun _ _ _ h => h) (by kernel_rfl) (fun w hw => by (try dsimp only at hw); obtain ⟨hw1, hw2, hw3, hw4, hw5⟩ := hw; go_simp) hH ?_
  simp only [List.setIfInBounds_toArray, List.set_cons_zero, List.set_cons_succ]
  refine takeL 7 7 (.tuple #[lkV Lk.zero, .bool false]) rfl (by kernel_rfl) (by kernel_rfl) (by kernel_rfl) (by kernel_rfl) (by kernel_rfl) (fun _ _ _ h => h) (by kernel_rfl) (fun w hw => by kernel_rfl) hH ?_
  simp only [List.setIfInBounds_toArray, List.set_cons_zero, List.set_cons_succ]
  refine takeL 8 15 (lkV Lk.zero) rfl (by kernel_rfl) (by kernel_rfl) (by kernel_rfl) (by kernel_rfl) (by kernel_rfl) (fun _ _ _ h => h) (by kernel_rfl) (fun w hw => by kernel_rfl) hH ?_
  simp only [List.setIfInBounds_toArray, List.set_cons_zero, List.set_cons_succ]
  refine takeL 9 16 (.bool false) rfl (by kernel_rfl) (by kernel_rfl) (by kernel_rfl) (by kernel_rfl) (by kernel_rfl) (fun _ _ _ h => h) (by kernel_rfl) (fun w hw => by kernel_rfl) hH ?_
  simp only [List.setIfInBounds_toArray, List.set_cons_zero, List.set_cons_succ]
  refine stepL_run 10 5 (.pointer (some ⟨w0.drew.heap.size, 0, none⟩)) (w0.drew.alloc (lkO Lk.zero)) rfl (by kernel_rfl) (by kernel_rfl) (by kernel_rfl) (exec_allocL (by kernel_rfl)) HS1.out ?_
  simp only [List.setIfInBounds_toArray, List.set_cons_zero, List.set_cons_succ]
  refine stepL_store 11 w2 rfl (by kernel_rfl) (by kernel_rfl) (by kernel_rfl) (HST.out _ _ (.tmp 5) (.tmp 15) (by kernel_rfl) (by kernel_rfl) (by kernel_rfl)) HS2.out ?_
  refine stepL_run 12 6 (.bool false) w2 rfl (by kernel_rfl) (by kernel_rfl) (by kernel_rfl) (by kernel_rfl) HS2.out ?_
  simp only [List.setIfInBounds_toArray, List.set_cons_zero, List.set_cons_succ]
  refine doneL (by kernel_rfl) ?_
  go_wp2_with (first
    | (go_at_call 19; refine HHO.out.mono ?_; rintro e w3 ⟨rfl, hB3⟩; have HB3 := Hid.mk hB3; clear hB3 HHO)
    | go_in)
  go_ret
  exact ⟨rfl, HB2.out.trans (HB3.out.mono HB2.out.size)⟩
set_option maxRecDepth 100000 in
set_option maxHeartbeats 4000000 in
theorem ask_row (h : TbAt F w t D) (l : Lk) (hl : l.wf) (hst : D.St) {N : Nat} (hf : Fit N D) (hN : N < 1000000) (hw : D.waits l.th = none) (hh : D.abs.holds l.th l.tg = false) {L : List Lk} (hr : D.abs.rows l.tg = some L) : Calls Try.prog 11 #[ptV t, lkV l] w fun e w' => e = .returned (.bool false) ∧ ∃ D', Hid (AskTo F w t (D.abs.wait l) N w' D') := by
  obtain ⟨w0, hw0⟩ : ∃ w0, w0 = w.alloc (lkO l) := ⟨_, rfl⟩
  obtain ⟨w2, hS, hsto, hB2, x2, hlt⟩ := ask_pre h l hl w0 hw0 Lk.zero
  simp only [hw, Option.getD_none, Option.isSome_none] at hS
  have hH := hS _ (.inl rfl)
  have HS1 := Hid.mk (hS _ (.inr (.inl rfl)))
  have HS2 := Hid.mk (hS _ (.inr (.inr rfl)))
  obtain ⟨_, d1, d2, d3, _⟩ := HS2.out
  have HST := Hid.mk hsto
  have HHO := Hid.mk (holds_any (h.below hB2) l.th l.tg hl.1 hl.2)
  rw [hh] at HHO
  have HSTART : Hid (∀ w3, Below w2.heap.size w2 w3 → Calls Try.prog 25 #[ptV t] w3 fun e w4 => e = .returned (.tuple #[]) ∧ ∃ D', Hid (TbAt (Grown (Old F w) w3) w4 t D' ∧ Only (Old F w) w3 w4 ∧ D'.Made ∧ D'.abs = D.abs ∧ Fit N D')) := Hid.mk (fun w3 hB3 => start_any ((h.old.below hB2).below hB3) hst hf)
  have HK : Hid (∀ w3 w4 D4, Below w2.heap.size w2 w3 → (TbAt (Grown (Old F w) w3) w4 t D4 ∧ Only (Old F w) w3 w4 ∧ D4.Made ∧ D4.abs = D.abs ∧ Fit N D4) → ∀ W, Below w4.heap.size w4 W → (W.cell? ⟨t, 1, none⟩ = some (.map D4.rm)) ∧ (W.cell? ⟨w.heap.size, 0, none⟩ = some (.int .i64 l.th) ∧ W.cell? ⟨w.heap.size, 1, none⟩ = some (.int .i64 l.tg) ∧ W.cell? ⟨w.heap.size, 2, none⟩ = some (.bool l.al)) ∧
    (Instr.lookup 51 (.map D4.rm) (.int .i64 l.tg) false).run Try.prog W = .ok (optP ((D4.rows l.tg).map (fun y => y.b))) W ∧
    Calls Try.prog 26 #[ptV t, lkV l] W (fun e w' => e = .returned (.bool (besB (D.abs.held l.tg) l.al)) ∧ Below W.heap.size W w') ∧
    Calls Try.prog 27 #[ptV t, lkV l] W (fun e w' => e = .returned (.tuple #[]) ∧ ∃ D', Hid (AskTo F w t (D.abs.grant l) N w' D')) ∧
    Calls Try.prog 28 #[ptV t, lkV l] W (fun e w' => e = .returned (.tuple #[]) ∧ ∃ D', Hid (AskTo F w t (D.abs.wait l) N w' D'))) := Hid.mk (fun w3 w4 D4 hB3 hQ W hB => ask_facts l hl hw hN hB2 x2 hB3 hQ.1 hQ.2.1 hQ.2.2.1 hQ.2.2.2.1 hQ.2.2.2.2 W hB)
  have HRW : Hid (∀ D4 : Td, D4.abs = D.abs → ∃ x : Rx, D4.rows l.tg = some x) := Hid.mk (fun D4 e => by
    have : D4.abs.rows l.tg = some L := by rw [e, hr]
    cases h0 : D4.rows l.tg with
    | none => rw [absr_at h0] at this; cases this
    | some x => exact ⟨x, rfl⟩)
  clear hr
  clear h hS hsto hB2 x2 hlt hw hh hst hf hN
  unfold lkO at hw0
  unfold lkV at HK
  rw [show lkV l = .agg #[.int .i64 l.th, .int .i64 l.tg, .bool l.al] from rfl]
  go_enter Try.func11, Try.ntmps11
  go_wp2
  rw [← hw0]
  clear hw0
  refine wp_region_but 12 (fun W => W.cell? ⟨t, 2, none⟩ = some (.map D.wm) ∧ W.cell? ⟨w.heap.size, 0, none⟩ = some (.int .i64 l.th) ∧ W.cell? ⟨w.heap.size, 1, none⟩ = some (.int .i64 l.tg) ∧ W.cell? ⟨w.heap.size, 2, none⟩ = some (.bool l.al) ∧ (Instr.lookup 52 (.map D.wm) (.int .i64 l.th) true).run Try.prog W = .ok (.tuple #[lkV Lk.zero, .bool false]) W) (by kernel_rfl) hH (fun hH => ?_)
  refine takeL 0 8 (.pointer (some ⟨t, 0, none⟩)) rfl (by kernel_rfl) (by kernel_rfl) (by kernel_rfl) (by kernel_rfl) (by kernel_rfl) (fun _ _ _ h => h) (by kernel_rfl) (fun w hw => by kernel_rfl) hH ?_
  simp only [List.setIfInBounds_toArray, List.set_cons_zero, List.set_cons_succ]
  refine takeL 1 9 (.pointer (some ⟨t, 0, none⟩)) rfl (by kernel_rfl) (by kernel_rfl) (by kernel_rfl) (by kernel_rfl) (by kernel_rfl) (fun _ _ _ h => h) (by kernel_rfl) (fun w hw => by go_simp) hH ?_
  simp only [List.setIfInBounds_toArray, List.set_cons_zero, List.set_cons_succ]
  refine takeL 2 10 (.pointer (some ⟨t, 2, none⟩)) rfl (by kernel_rfl) (by kernel_rfl) (by kernel_rfl) (by kernel_rfl) (by kernel_rfl) (fun _ _ _ h => h) (by kernel_rfl) (fun w hw => by go_simp) hH ?_
  simp only [List.setIfInBounds_toArray, List.set_cons_zero, List.set_cons_succ]
  refine takeL 3 11 (.map D.wm) rfl (by kernel_rfl) (by kernel_rfl) (by kernel_rfl) (by kernel_rfl) (by kernel_rfl) (fun _ _ _ h => h) (by kernel_rfl) (fun w hw => by (try dsimp only at hw); obtain ⟨hw1, hw2, hw3, hw4, hw5⟩ := hw; go_simp) hH ?_
  simp only [List.setIfInBounds_toArray, List.set_cons_zero, List.set_cons_succ]
  refine takeL 4 12 (.pointer (some ⟨w.heap.size, 0, none⟩)) rfl (by kernel_rfl) (by kernel_rfl) (by kernel_rfl) (by kernel_rfl) (by kernel_rfl) (fun _ _ _ h => h) (by kernel_rfl) (fun w hw => by go_simp) hH ?_
  simp only [List.setIfInBounds_toArray, List.set_cons_zero, List.set_cons_succ]
  refine takeL 5 13 (.int .i64 l.th) rfl (by kernel_rfl) (by kernel_rfl) (by kernel_rfl) (by kernel_rfl) (by kernel_rfl) (fun _ _ _ h => h) (by kernel_rfl) (fun w hw => by (try dsimp only at hw); obtain ⟨hw1, hw2, hw3, hw4, hw5⟩ := hw; go_simp) hH ?_
  simp only [List.setIfInBounds_toArray, List.set_cons_zero, List.set_cons_succ]
  refine takeL 6 14 (.tuple #[lkV Lk.zero, .bool false]) rfl (by kernel_rfl) (by kernel_rfl) (by kernel_rfl) (by kernel_rfl) (by kernel_rfl) (fun _ _ _ h => h) (by kernel_rfl) (fun w hw => by (try dsimp only at hw); obtain ⟨hw1, hw2, hw3, hw4, hw5⟩ := hw; go_simp) hH ?_
  simp only [List.setIfInBounds_toArray, List.set_cons_zero, List.set_cons_succ]
  refine takeL 7 7 (.tuple #[lkV Lk.zero, .bool false]) rfl (by kernel_rfl) (by kernel_rfl) (by kernel_rfl) (by kernel_rfl) (by kernel_rfl) (fun _ _ _ h => h) (by kernel_rfl) (fun w hw => by kernel_rfl) hH ?_
  simp only [List.setIfInBounds_toArray, List.set_cons_zero, List.set_cons_succ]
  refine takeL 8 15 (lkV Lk.zero) rfl (by kernel_rfl) (by kernel_rfl) (by kernel_rfl) (by kernel_rfl) (by kernel_rfl) (fun _ _ _ h => h) (by kernel_rfl) (fun w hw => by kernel_rfl) hH ?_
  simp only [List.setIfInBounds_toArray, List.set_cons_zero, List.set_cons_succ]
  refine takeL 9 16 (.bool false) rfl (by kernel_rfl) (by kernel_rfl) (by kernel_rfl) (by kernel_rfl) (by kernel_rfl) (fun _ _ _ h => h) (by kernel_rfl) (fun w hw => by kernel_rfl) hH ?_
  simp only [List.setIfInBounds_toArray, List.set_cons_zero, List.set_cons_succ]
  refine stepL_run 10 5 (.pointer (some ⟨w0.drew.heap.size, 0, none⟩)) (w0.drew.alloc (lkO Lk.zero)) rfl (by kernel_rfl) (by kernel_rfl) (by kernel_rfl) (exec_allocL (by kernel_rfl)) HS1.out ?_
  simp only [List.setIfInBounds_toArray, List.set_cons_zero, List.set_cons_succ]
  refine stepL_store 11 w2 rfl (by kernel_rfl) (by kernel_rfl) (by kernel_rfl) (HST.out _ _ (.tmp 5) (.tmp 15) (by kernel_rfl) (by kernel_rfl) (by kernel_rfl)) HS2.out ?_
  refine stepL_run 12 6 (.bool false) w2 rfl (by kernel_rfl) (by kernel_rfl) (by kernel_rfl) (by kernel_rfl) HS2.out ?_
  simp only [List.setIfInBounds_toArray, List.set_cons_zero, List.set_cons_succ]
  refine doneL (by kernel_rfl) ?_
  go_wp2_with (first
    | (go_at_call 19; refine HHO.out.mono ?_; rintro e w3 ⟨rfl, hB3⟩; have HSX := Hid.mk (HSTART.out w3 hB3); have HKX := Hid.mk (fun w4 D4 => HK.out w3 w4 D4 hB3); clear hB3 HHO HSTART HK)
    | (go_at_call 25; refine HSX.out.mono ?_; rintro e w4 ⟨rfl, D4, HQ4⟩; have HKY := Hid.mk (HKX.out w4 D4 HQ4.out); obtain ⟨k1, ⟨k2, k3, k4⟩, k5, k6, k7, k8⟩ := HKY.out w4.drew (drew_below _); obtain ⟨x, hx⟩ := HRW.out D4 HQ4.out.2.2.2.1; rw [hx] at k5; simp only [Option.map_some, optP] at k5; have k10 := eqr_some x.b; have HFI := Hid.mk k6; have HG := Hid.mk k7; have HW := Hid.mk k8; clear HSX HKX k6 k7 k8)
    | go_in)
  go_region
  go_wp2_with (first
    | (go_at_call 28; refine HW.out.mono ?_; rintro e w6 ⟨rfl, D6, HFIN⟩)
    | go_in)
  all_goals go_ret
  all_goals exact ⟨rfl, _, HFIN⟩
set_option maxRecDepth 100000 in
set_option maxHeartbeats 4000000 in
theorem ask_full (h : TbAt F w t D) (l : Lk) (hl : l.wf) (hst : D.St) {N : Nat} (hf : Fit N D) (hN : N < 1000000) (hw : D.waits l.th = none) (hh : D.abs.holds l.th l.tg = false) (hr : D.abs.rows l.tg = none) (hb : besB (D.abs.held l.tg) l.al = false) : Calls Try.prog 11 #[ptV t, lkV l] w fun e w' => e = .returned (.bool false) ∧ ∃ D', Hid (AskTo F w t (D.abs.wait l) N w' D') := by
  obtain ⟨w0, hw0⟩ : ∃ w0, w0 = w.alloc (lkO l) := ⟨_, rfl⟩
  obtain ⟨w2, hS, hsto, hB2, x2, hlt⟩ := ask_pre h l hl w0 hw0 Lk.zero
  simp only [hw, Option.getD_none, Option.isSome_none] at hS
  have hH := hS _ (.inl rfl)
  have HS1 := Hid.mk (hS _ (.inr (.inl rfl)))
  have HS2 := Hid.mk (hS _ (.inr (.inr rfl)))
  obtain ⟨_, d1, d2, d3, _⟩ := HS2.out
  have HST := Hid.mk hsto
  have HHO := Hid.mk (holds_any (h.below hB2) l.th l.tg hl.1 hl.2)
  rw [hh] at HHO
  have HSTART : Hid (∀ w3, Below w2.heap.size w2 w3 → Calls Try.prog 25 #[ptV t] w3 fun e w4 => e = .returned (.tuple #[]) ∧ ∃ D', Hid (TbAt (Grown (Old F w) w3) w4 t D' ∧ Only (Old F w) w3 w4 ∧ D'.Made ∧ D'.abs = D.abs ∧ Fit N D')) := Hid.mk (fun w3 hB3 => start_any ((h.old.below hB2).below hB3) hst hf)
  have HK : Hid (∀ w3 w4 D4, Below w2.heap.size w2 w3 → (TbAt (Grown (Old F w) w3) w4 t D4 ∧ Only (Old F w) w3 w4 ∧ D4.Made ∧ D4.abs = D.abs ∧ Fit N D4) → ∀ W, Below w4.heap.size w4 W → (W.cell? ⟨t, 1, none⟩ = some (.map D4.rm)) ∧ (W.cell? ⟨w.heap.size, 0, none⟩ = some (.int .i64 l.th) ∧ W.cell? ⟨w.heap.size, 1, none⟩ = some (.int .i64 l.tg) ∧ W.cell? ⟨w.heap.size, 2, none⟩ = some (.bool l.al)) ∧
    (Instr.lookup 51 (.map D4.rm) (.int .i64 l.tg) false).run Try.prog W = .ok (optP ((D4.rows l.tg).map (fun y => y.b))) W ∧
    Calls Try.prog 26 #[ptV t, lkV l] W (fun e w' => e = .returned (.bool (besB (D.abs.held l.tg) l.al)) ∧ Below W.heap.size W w') ∧
    Calls Try.prog 27 #[ptV t, lkV l] W (fun e w' => e = .returned (.tuple #[]) ∧ ∃ D', Hid (AskTo F w t (D.abs.grant l) N w' D')) ∧
    Calls Try.prog 28 #[ptV t, lkV l] W (fun e w' => e = .returned (.tuple #[]) ∧ ∃ D', Hid (AskTo F w t (D.abs.wait l) N w' D'))) := Hid.mk (fun w3 w4 D4 hB3 hQ W hB => ask_facts l hl hw hN hB2 x2 hB3 hQ.1 hQ.2.1 hQ.2.2.1 hQ.2.2.2.1 hQ.2.2.2.2 W hB)
  have HRW : Hid (∀ D4 : Td, D4.abs = D.abs → D4.rows l.tg = none) := Hid.mk (fun D4 e => by
    have : D4.abs.rows l.tg = none := by rw [e, hr]
    cases h0 : D4.rows l.tg with
    | none => rfl
    | some x => rw [absr_at h0] at this; cases this)
  rw [hb] at HK
  clear hr hb
  clear h hS hsto hB2 x2 hlt hw hh hst hf hN
  unfold lkO at hw0
  unfold lkV at HK
  rw [show lkV l = .agg #[.int .i64 l.th, .int .i64 l.tg, .bool l.al] from rfl]
  go_enter Try.func11, Try.ntmps11
  go_wp2
  rw [← hw0]
  clear hw0
  refine wp_region_but 12 (fun W => W.cell? ⟨t, 2, none⟩ = some (.map D.wm) ∧ W.cell? ⟨w.heap.size, 0, none⟩ = some (.int .i64 l.th) ∧ W.cell? ⟨w.heap.size, 1, none⟩ = some (.int .i64 l.tg) ∧ W.cell? ⟨w.heap.size, 2, none⟩ = some (.bool l.al) ∧ (Instr.lookup 52 (.map D.wm) (.int .i64 l.th) true).run Try.prog W = .ok (.tuple #[lkV Lk.zero, .bool false]) W) (by kernel_rfl) hH (fun hH => ?_)
  refine takeL 0 8 (.pointer (some ⟨t, 0, none⟩)) rfl (by kernel_rfl) (by kernel_rfl) (by kernel_rfl) (by kernel_rfl) (by kernel_rfl) (fun _ _ _ h => h) (by kernel_rfl) (fun w hw => by kernel_rfl) hH ?_
  simp only [List.setIfInBounds_toArray, List.set_cons_zero, List.set_cons_succ]
  refine takeL 1 9 (.pointer (some ⟨t, 0, none⟩)) rfl (by kernel_rfl) (by kernel_rfl) (by kernel_rfl) (by kernel_rfl) (by kernel_rfl) (fun _ _ _ h => h) (by kernel_rfl) (fun w hw => by go_simp) hH ?_
  simp only [List.setIfInBounds_toArray, List.set_cons_zero, List.set_cons_succ]
  refine takeL 2 10 (.pointer (some ⟨t, 2, none⟩)) rfl (by kernel_rfl) (by kernel_rfl) (by kernel_rfl) (by kernel_rfl) (by kernel_rfl) (fun _ _ _ h => h) (by kernel_rfl) (fun w hw => by go_simp) hH ?_
  simp only [List.setIfInBounds_toArray, List.set_cons_zero, List.set_cons_succ]
  refine takeL 3 11 (.map D.wm) rfl (by kernel_rfl) (by kernel_rfl) (by kernel_rfl) (by kernel_rfl) (by kernel_rfl) (fun _ _ _ h => h) (by kernel_rfl) (fun w hw => by (try dsimp only at hw); obtain ⟨hw1, hw2, hw3, hw4, hw5⟩ := hw; go_simp) hH ?_
  simp only [List.setIfInBounds_toArray, List.set_cons_zero, List.set_cons_succ]
  refine takeL 4 12 (.pointer (some ⟨w.heap.size, 0, none⟩)) rfl (by kernel_rfl) (by kernel_rfl) (by kernel_rfl) (by kernel_rfl) (by kernel_rfl) (fun _ _ _ h => h) (by kernel_rfl) (fun w hw => by go_simp) hH ?_
  simp only [List.setIfInBounds_toArray, List.set_cons_zero, List.set_cons_succ]
  refine takeL 5 13 (.int .i64 l.th) rfl (by kernel_rfl) (by kernel_rfl) (by kernel_rfl) (by kernel_rfl) (by kernel_rfl) (fun _ _ _ h => h) (by kernel_rfl) (fun w hw => by (try dsimp only at hw); obtain ⟨hw1, hw2, hw3, hw4, hw5⟩ := hw; go_simp) hH ?_
  simp only [List.setIfInBounds_toArray, List.set_cons_zero, List.set_cons_succ]
  refine takeL 6 14 (.tuple #[lkV Lk.zero, .bool false]) rfl (by kernel_rfl) (by kernel_rfl) (by kernel_rfl) (by kernel_rfl) (by kernel_rfl) (fun _ _ _ h => h) (by kernel_rfl) (fun w hw => by (try dsimp only at hw); obtain ⟨hw1, hw2, hw3, hw4, hw5⟩ := hw; go_simp) hH ?_
  simp only [List.setIfInBounds_toArray, List.set_cons_zero, List.set_cons_succ]
  refine takeL 7 7 (.tuple #[lkV Lk.zero, .bool false]) rfl (by kernel_rfl) (by kernel_rfl) (by kernel_rfl) (by kernel_rfl) (by kernel_rfl) (fun _ _ _ h => h) (by kernel_rfl) (fun w hw => by kernel_rfl) hH ?_
  simp only [List.setIfInBounds_toArray, List.set_cons_zero, List.set_cons_succ]
  refine takeL 8 15 (lkV Lk.zero) rfl (by kernel_rfl) (by kernel_rfl) (by kernel_rfl) (by kernel_rfl) (by kernel_rfl) (fun _ _ _ h => h) (by kernel_rfl) (fun w hw => by kernel_rfl) hH ?_
  simp only [List.setIfInBounds_toArray, List.set_cons_zero, List.set_cons_succ]
  refine takeL 9 16 (.bool false) rfl (by kernel_rfl) (by kernel_rfl) (by kernel_rfl) (by kernel_rfl) (by kernel_rfl) (fun _ _ _ h => h) (by kernel_rfl) (fun w hw => by kernel_rfl) hH ?_
  simp only [List.setIfInBounds_toArray, List.set_cons_zero, List.set_cons_succ]
  refine stepL_run 10 5 (.pointer (some ⟨w0.drew.heap.size, 0, none⟩)) (w0.drew.alloc (lkO Lk.zero)) rfl (by kernel_rfl) (by kernel_rfl) (by kernel_rfl) (exec_allocL (by kernel_rfl)) HS1.out ?_
  simp only [List.setIfInBounds_toArray, List.set_cons_zero, List.set_cons_succ]
  refine stepL_store 11 w2 rfl (by kernel_rfl) (by kernel_rfl) (by kernel_rfl) (HST.out _ _ (.tmp 5) (.tmp 15) (by kernel_rfl) (by kernel_rfl) (by kernel_rfl)) HS2.out ?_
  refine stepL_run 12 6 (.bool false) w2 rfl (by kernel_rfl) (by kernel_rfl) (by kernel_rfl) (by kernel_rfl) HS2.out ?_
  simp only [List.setIfInBounds_toArray, List.set_cons_zero, List.set_cons_succ]
  refine doneL (by kernel_rfl) ?_
  go_wp2_with (first
    | (go_at_call 19; refine HHO.out.mono ?_; rintro e w3 ⟨rfl, hB3⟩; have HSX := Hid.mk (HSTART.out w3 hB3); have HKX := Hid.mk (fun w4 D4 => HK.out w3 w4 D4 hB3); clear hB3 HHO HSTART HK)
    | (go_at_call 25; refine HSX.out.mono ?_; rintro e w4 ⟨rfl, D4, HQ4⟩; have HKY := Hid.mk (HKX.out w4 D4 HQ4.out); obtain ⟨k1, ⟨k2, k3, k4⟩, k5, k6, k7, k8⟩ := HKY.out w4.drew (drew_below _); have hx := HRW.out D4 HQ4.out.2.2.2.1; rw [hx] at k5; simp only [Option.map_none, optP] at k5; have k10 := eqr_none; have HFI := Hid.mk k6; have HG := Hid.mk k7; have HW := Hid.mk k8; clear HSX HKX k6 k7 k8)
    | go_in)
  go_region_with (go_at_call 26; refine HFI.out.mono ?_; rintro e w5 ⟨rfl, hB5⟩; obtain ⟨j1, ⟨j2, j3, j4⟩, j5, j6, j7, j8⟩ := HKY.out w5 ((drew_below _).trans (hB5.mono (Nat.le_refl _))); have HG5 := Hid.mk j7; have HW5 := Hid.mk j8; clear j5 j6 j7 j8 hB5 HKY)
  all_goals (go_wp2_with (first
    | (go_at_call 27; refine HG5.out.mono ?_; rintro e w6 ⟨rfl, D6, HFIN⟩)
    | (go_at_call 28; refine HW5.out.mono ?_; rintro e w6 ⟨rfl, D6, HFIN⟩)
    | go_in))
  all_goals go_ret
  all_goals exact ⟨rfl, _, HFIN⟩
set_option maxRecDepth 100000 in
set_option maxHeartbeats 4000000 in
theorem ask_grant (h : TbAt F w t D) (l : Lk) (hl : l.wf) (hst : D.St) {N : Nat} (hf : Fit N D) (hN : N < 1000000) (hw : D.waits l.th = none) (hh : D.abs.holds l.th l.tg = false) (hr : D.abs.rows l.tg = none) (hb : besB (D.abs.held l.tg) l.al = true) : Calls Try.prog 11 #[ptV t, lkV l] w fun e w' => e = .returned (.bool true) ∧ ∃ D', Hid (AskTo F w t (D.abs.grant l) N w' D') := by
  obtain ⟨w0, hw0⟩ : ∃ w0, w0 = w.alloc (lkO l) := ⟨_, rfl⟩
  obtain ⟨w2, hS, hsto, hB2, x2, hlt⟩ := ask_pre h l hl w0 hw0 Lk.zero
  simp only [hw, Option.getD_none, Option.isSome_none] at hS
  have hH := hS _ (.inl rfl)
  have HS1 := Hid.mk (hS _ (.inr (.inl rfl)))
  have HS2 := Hid.mk (hS _ (.inr (.inr rfl)))
  obtain ⟨_, d1, d2, d3, _⟩ := HS2.out
  have HST := Hid.mk hsto
  have HHO := Hid.mk (holds_any (h.below hB2) l.th l.tg hl.1 hl.2)
  rw [hh] at HHO
  have HSTART : Hid (∀ w3, Below w2.heap.size w2 w3 → Calls Try.prog 25 #[ptV t] w3 fun e w4 => e = .returned (.tuple #[]) ∧ ∃ D', Hid (TbAt (Grown (Old F w) w3) w4 t D' ∧ Only (Old F w) w3 w4 ∧ D'.Made ∧ D'.abs = D.abs ∧ Fit N D')) := Hid.mk (fun w3 hB3 => start_any ((h.old.below hB2).below hB3) hst hf)
  have HK : Hid (∀ w3 w4 D4, Below w2.heap.size w2 w3 → (TbAt (Grown (Old F w) w3) w4 t D4 ∧ Only (Old F w) w3 w4 ∧ D4.Made ∧ D4.abs = D.abs ∧ Fit N D4) → ∀ W, Below w4.heap.size w4 W → (W.cell? ⟨t, 1, none⟩ = some (.map D4.rm)) ∧ (W.cell? ⟨w.heap.size, 0, none⟩ = some (.int .i64 l.th) ∧ W.cell? ⟨w.heap.size, 1, none⟩ = some (.int .i64 l.tg) ∧ W.cell? ⟨w.heap.size, 2, none⟩ = some (.bool l.al)) ∧
    (Instr.lookup 51 (.map D4.rm) (.int .i64 l.tg) false).run Try.prog W = .ok (optP ((D4.rows l.tg).map (fun y => y.b))) W ∧
    Calls Try.prog 26 #[ptV t, lkV l] W (fun e w' => e = .returned (.bool (besB (D.abs.held l.tg) l.al)) ∧ Below W.heap.size W w') ∧
    Calls Try.prog 27 #[ptV t, lkV l] W (fun e w' => e = .returned (.tuple #[]) ∧ ∃ D', Hid (AskTo F w t (D.abs.grant l) N w' D')) ∧
    Calls Try.prog 28 #[ptV t, lkV l] W (fun e w' => e = .returned (.tuple #[]) ∧ ∃ D', Hid (AskTo F w t (D.abs.wait l) N w' D'))) := Hid.mk (fun w3 w4 D4 hB3 hQ W hB => ask_facts l hl hw hN hB2 x2 hB3 hQ.1 hQ.2.1 hQ.2.2.1 hQ.2.2.2.1 hQ.2.2.2.2 W hB)
  have HRW : Hid (∀ D4 : Td, D4.abs = D.abs → D4.rows l.tg = none) := Hid.mk (fun D4 e => by
    have : D4.abs.rows l.tg = none := by rw [e, hr]
    cases h0 : D4.rows l.tg with
    | none => rfl
    | some x => rw [absr_at h0] at this; cases this)
  rw [hb] at HK
  clear hr hb
  clear h hS hsto hB2 x2 hlt hw hh hst hf hN
  unfold lkO at hw0
  unfold lkV at HK
  rw [show lkV l = .agg #[.int .i64 l.th, .int .i64 l.tg, .bool l.al] from rfl]
  go_enter Try.func11, Try.ntmps11
  go_wp2
  rw [← hw0]
  clear hw0
  refine wp_region_but 12 (fun W => W.cell? ⟨t, 2, none⟩ = some (.map D.wm) ∧ W.cell? ⟨w.heap.size, 0, none⟩ = some (.int .i64 l.th) ∧ W.cell? ⟨w.heap.size, 1, none⟩ = some (.int .i64 l.tg) ∧ W.cell? ⟨w.heap.size, 2, none⟩ = some (.bool l.al) ∧ (Instr.lookup 52 (.map D.wm) (.int .i64 l.th) true).run Try.prog W = .ok (.tuple #[lkV Lk.zero, .bool false]) W) (by kernel_rfl) hH (fun hH => ?_)
  refine takeL 0 8 (.pointer (some ⟨t, 0, none⟩)) rfl (by kernel_rfl) (by kernel_rfl) (by kernel_rfl) (by kernel_rfl) (by kernel_rfl) (fun _ _ _ h => h) (by kernel_rfl) (fun w hw => by kernel_rfl) hH ?_
  simp only [List.setIfInBounds_toArray, List.set_cons_zero, List.set_cons_succ]
  refine takeL 1 9 (.pointer (some ⟨t, 0, none⟩)) rfl (by kernel_rfl) (by kernel_rfl) (by kernel_rfl) (by kernel_rfl) (by kernel_rfl) (fun _ _ _ h => h) (by kernel_rfl) (fun w hw => by go_simp) hH ?_
  simp only [List.setIfInBounds_toArray, List.set_cons_zero, List.set_cons_succ]
  refine takeL 2 10 (.pointer (some ⟨t, 2, none⟩)) rfl (by kernel_rfl) (by kernel_rfl) (by kernel_rfl) (by kernel_rfl) (by kernel_rfl) (fun _ _ _ h => h) (by kernel_rfl) (fun w hw => by go_simp) hH ?_
  simp only [List.setIfInBounds_toArray, List.set_cons_zero, List.set_cons_succ]
  refine takeL 3 11 (.map D.wm) rfl (by kernel_rfl) (by kernel_rfl) (by kernel_rfl) (by kernel_rfl) (by kernel_rfl) (fun _ _ _ h => h) (by kernel_rfl) (fun w hw => by (try dsimp only at hw); obtain ⟨hw1, hw2, hw3, hw4, hw5⟩ := hw; go_simp) hH ?_
  simp only [List.setIfInBounds_toArray, List.set_cons_zero, List.set_cons_succ]
  refine takeL 4 12 (.pointer (some ⟨w.heap.size, 0, none⟩)) rfl (by kernel_rfl) (by kernel_rfl) (by kernel_rfl) (by kernel_rfl) (by kernel_rfl) (fun _ _ _ h => h) (by kernel_rfl) (fun w hw => by go_simp) hH ?_
  simp only [List.setIfInBounds_toArray, List.set_cons_zero, List.set_cons_succ]
  refine takeL 5 13 (.int .i64 l.th) rfl (by kernel_rfl) (by kernel_rfl) (by kernel_rfl) (by kernel_rfl) (by kernel_rfl) (fun _ _ _ h => h) (by kernel_rfl) (fun w hw => by (try dsimp only at hw); obtain ⟨hw1, hw2, hw3, hw4, hw5⟩ := hw; go_simp) hH ?_
  simp only [List.setIfInBounds_toArray, List.set_cons_zero, List.set_cons_succ]
  refine takeL 6 14 (.tuple #[lkV Lk.zero, .bool false]) rfl (by kernel_rfl) (by kernel_rfl) (by kernel_rfl) (by kernel_rfl) (by kernel_rfl) (fun _ _ _ h => h) (by kernel_rfl) (fun w hw => by (try dsimp only at hw); obtain ⟨hw1, hw2, hw3, hw4, hw5⟩ := hw; go_simp) hH ?_
  simp only [List.setIfInBounds_toArray, List.set_cons_zero, List.set_cons_succ]
  refine takeL 7 7 (.tuple #[lkV Lk.zero, .bool false]) rfl (by kernel_rfl) (by kernel_rfl) (by kernel_rfl) (by kernel_rfl) (by kernel_rfl) (fun _ _ _ h => h) (by kernel_rfl) (fun w hw => by kernel_rfl) hH ?_
  simp only [List.setIfInBounds_toArray, List.set_cons_zero, List.set_cons_succ]
  refine takeL 8 15 (lkV Lk.zero) rfl (by kernel_rfl) (by kernel_rfl) (by kernel_rfl) (by kernel_rfl) (by kernel_rfl) (fun _ _ _ h => h) (by kernel_rfl) (fun w hw => by kernel_rfl) hH ?_
  simp only [List.setIfInBounds_toArray, List.set_cons_zero, List.set_cons_succ]
  refine takeL 9 16 (.bool false) rfl (by kernel_rfl) (by kernel_rfl) (by kernel_rfl) (by kernel_rfl) (by kernel_rfl) (fun _ _ _ h => h) (by kernel_rfl) (fun w hw => by kernel_rfl) hH ?_
  simp only [List.setIfInBounds_toArray, List.set_cons_zero, List.set_cons_succ]
  refine stepL_run 10 5 (.pointer (some ⟨w0.drew.heap.size, 0, none⟩)) (w0.drew.alloc (lkO Lk.zero)) rfl (by kernel_rfl) (by kernel_rfl) (by kernel_rfl) (exec_allocL (by kernel_rfl)) HS1.out ?_
  simp only [List.setIfInBounds_toArray, List.set_cons_zero, List.set_cons_succ]
  refine stepL_store 11 w2 rfl (by kernel_rfl) (by kernel_rfl) (by kernel_rfl) (HST.out _ _ (.tmp 5) (.tmp 15) (by kernel_rfl) (by kernel_rfl) (by kernel_rfl)) HS2.out ?_
  refine stepL_run 12 6 (.bool false) w2 rfl (by kernel_rfl) (by kernel_rfl) (by kernel_rfl) (by kernel_rfl) HS2.out ?_
  simp only [List.setIfInBounds_toArray, List.set_cons_zero, List.set_cons_succ]
  refine doneL (by kernel_rfl) ?_
  go_wp2_with (first
    | (go_at_call 19; refine HHO.out.mono ?_; rintro e w3 ⟨rfl, hB3⟩; have HSX := Hid.mk (HSTART.out w3 hB3); have HKX := Hid.mk (fun w4 D4 => HK.out w3 w4 D4 hB3); clear hB3 HHO HSTART HK)
    | (go_at_call 25; refine HSX.out.mono ?_; rintro e w4 ⟨rfl, D4, HQ4⟩; have HKY := Hid.mk (HKX.out w4 D4 HQ4.out); obtain ⟨k1, ⟨k2, k3, k4⟩, k5, k6, k7, k8⟩ := HKY.out w4.drew (drew_below _); have hx := HRW.out D4 HQ4.out.2.2.2.1; rw [hx] at k5; simp only [Option.map_none, optP] at k5; have k10 := eqr_none; have HFI := Hid.mk k6; have HG := Hid.mk k7; have HW := Hid.mk k8; clear HSX HKX k6 k7 k8)
    | go_in)
  go_region_with (go_at_call 26; refine HFI.out.mono ?_; rintro e w5 ⟨rfl, hB5⟩; obtain ⟨j1, ⟨j2, j3, j4⟩, j5, j6, j7, j8⟩ := HKY.out w5 ((drew_below _).trans (hB5.mono (Nat.le_refl _))); have HG5 := Hid.mk j7; have HW5 := Hid.mk j8; clear j5 j6 j7 j8 hB5 HKY)
  all_goals (go_wp2_with (first
    | (go_at_call 27; refine HG5.out.mono ?_; rintro e w6 ⟨rfl, D6, HFIN⟩)
    | (go_at_call 28; refine HW5.out.mono ?_; rintro e w6 ⟨rfl, D6, HFIN⟩)
    | go_in))
  all_goals go_ret
  all_goals exact ⟨rfl, _, HFIN⟩

end
end Go.Proofs.Ytoediflikoedaaa
