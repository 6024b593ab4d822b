/-
  What is only asked of a table: Holds, Waits, fits; New.
-/
import Derived.Test.YtoediflikoedaaaLkTurn
import Derived.BigQuiet
namespace Go.Proofs.Ytoediflikoedaaa
open Go Go.Proofs Go.RowKit Go.Shelf
attribute [local go_sem] Oper.semAt_some
theorem eqp_some (b : Nat) (W : World) : (binOp BinOp.eql 60 (ptV b) (.pointer none)).run Try.prog W = .ok (.bool false) W := by kernel_rfl
theorem eqp_none (W : World) : (binOp BinOp.eql 60 (.pointer none) (.pointer none)).run Try.prog W = .ok (.bool true) W := by kernel_rfl
theorem nep_some (b : Nat) (W : World) : (binOp BinOp.neq 60 (ptV b) (.pointer none)).run Try.prog W = .ok (.bool true) W := by kernel_rfl
theorem nep_none (W : World) : (binOp BinOp.neq 60 (.pointer none) (.pointer none)).run Try.prog W = .ok (.bool false) W := by kernel_rfl
theorem eqr_some (b : Nat) (W : World) : (binOp BinOp.eql 55 (ptV b) (.pointer none)).run Try.prog W = .ok (.bool false) W := by kernel_rfl
theorem eqr_none (W : World) : (binOp BinOp.eql 55 (.pointer none) (.pointer none)).run Try.prog W = .ok (.bool true) W := by kernel_rfl
theorem ner_some (b : Nat) (W : World) : (binOp BinOp.neq 55 (ptV b) (.pointer none)).run Try.prog W = .ok (.bool true) W := by kernel_rfl
theorem ner_none (W : World) : (binOp BinOp.neq 55 (.pointer none) (.pointer none)).run Try.prog W = .ok (.bool false) W := by kernel_rfl
theorem load31 {b o : Nat} {l : Lk} {W : World} (h0 : W.cell? ⟨b, o, none⟩ = some (.int .i64 l.th)) (h1 : W.cell? ⟨b, o + 1, none⟩ = some (.int .i64 l.tg)) (h2 : W.cell? ⟨b, o + 2, none⟩ = some (.bool l.al)) : (loadVar 31 ⟨b, o, none⟩).run Try.prog W = .ok (lkV l) W := by
  have h := run_loadCells_list (P := Try.prog) W ⟨b, o, none⟩ (lkC l) (fun j v hj => by
    match j, hj with
    | 0, hj => cases hj; rw [add_at]; exact h0
    | 1, hj => cases hj; rw [add_at]; exact h1
    | 2, hj => cases hj; rw [add_at]; exact h2)
  have h2 : (loadCells ⟨b, o, none⟩ 3).run Try.prog W = .ok (lkC l).toArray W := h
  simp [loadVar, h2, lkV, lkC]
theorem results_lk {f : Func} {tmps : Array Value} {a b : Nat} {l : Lk} {W : World} (hf : f.results = #[.cell a 31]) (ht : tmps.getD a undef = .pointer (some ⟨b, 0, none⟩)) (h0 : W.cell? ⟨b, 0, none⟩ = some (.int .i64 l.th)) (h1 : W.cell? ⟨b, 0 + 1, none⟩ = some (.int .i64 l.tg)) (h2 : W.cell? ⟨b, 0 + 2, none⟩ = some (.bool l.al)) : (results f tmps).run Try.prog W = .ok (lkV l) W := by
  have h := load31 h0 h1 h2
  have ht2 : tmps[a]?.getD undef = .pointer (some ⟨b, 0, none⟩) := by rw [← ht]; simp
  unfold results
  rw [hf]
  simp [ht2, asAddr, h]
theorem results_lk2 {f : Func} {tmps : Array Value} {a c b : Nat} {l : Lk} {W : World} (hf : f.results = #[.cell a 31, .tmp c]) (ht : tmps.getD a undef = .pointer (some ⟨b, 0, none⟩)) (h0 : W.cell? ⟨b, 0, none⟩ = some (.int .i64 l.th)) (h1 : W.cell? ⟨b, 0 + 1, none⟩ = some (.int .i64 l.tg)) (h2 : W.cell? ⟨b, 0 + 2, none⟩ = some (.bool l.al)) : (results f tmps).run Try.prog W = .ok (.tuple #[lkV l, tmps.getD c undef]) W := by
  have h := load31 h0 h1 h2
  have ht2 : tmps[a]?.getD undef = .pointer (some ⟨b, 0, none⟩) := by rw [← ht]; simp
  unfold results
  rw [hf]
  simp [ht2, asAddr, h]
section
variable {F : Nat → Prop} {w : World} {t : Nat} {D : Td}
theorem TbAt.lookH_none (h : TbAt F w t D) {x : Int} (hx : (Lit.int .i64 x).wf = true) (hi : D.held x = none) : (Instr.lookup 50 (.map D.hm) (.int .i64 x) false).run Try.prog w = .ok (.pointer none) w := by
  have := h.lookH hx
  rwa [hi] at this
theorem TbAt.lookH_some (h : TbAt F w t D) {x : Int} (hx : (Lit.int .i64 x).wf = true) {y : Hx} (hi : D.held x = some y) : (Instr.lookup 50 (.map D.hm) (.int .i64 x) false).run Try.prog w = .ok (ptV y.b) w := by
  have := h.lookH hx
  rwa [hi] at this
theorem TbAt.lookR_none (h : TbAt F w t D) {x : Int} (hx : (Lit.int .i64 x).wf = true) (hi : D.rows x = none) : (Instr.lookup 51 (.map D.rm) (.int .i64 x) false).run Try.prog w = .ok (.pointer none) w := by
  have := h.lookR hx
  rwa [hi] at this
theorem TbAt.lookR_some (h : TbAt F w t D) {x : Int} (hx : (Lit.int .i64 x).wf = true) {y : Rx} (hi : D.rows x = some y) : (Instr.lookup 51 (.map D.rm) (.int .i64 x) false).run Try.prog w = .ok (ptV y.b) w := by
  have := h.lookR hx
  rwa [hi] at this
set_option maxRecDepth 100000 in
set_option maxHeartbeats 2000000 in
theorem holds_any (h : TbAt F w t D) (th tg : Int) (hth : (Lit.int .i64 th).wf = true) (htg : (Lit.int .i64 tg).wf = true) :
    Calls Try.prog 19 #[ptV t, .int .i64 th, .int .i64 tg] w fun e w' => e = .returned (.bool (D.abs.holds th tg)) ∧ Below w.heap.size w w' := by
  have c0 := h.cells.1
  cases hx : D.held tg with
  | none =>
    have q1 := h.lookH_none htg hx
    have q2 := eqp_none
    have ha : D.abs.holds th tg = false := by simp [Ta.holds, Td.abs, hx, holdB]
    rw [ha]
    go_enter Try.func19, Try.ntmps19
    go_wp2
    go_ret
    exact ⟨rfl, Below.refl _ w⟩
  | some x =>
    have q1 := h.lookH_some htg hx
    have q2 := eqp_some x.b
    obtain ⟨⟨_, _, hb⟩, _, _, hs⟩ := h.hx hx
    have c1 : w.cell? ⟨x.b, 0, none⟩ = some (.map (some x.m)) := by rw [blk_cell hb]; rfl
    have q3 := hs.look2 hth
    have ha : D.abs.holds th tg = decide (th ∈ x.S) := by simp [Ta.holds, Td.abs, hx, holdB]
    rw [ha]
    clear hb hs h
    go_enter Try.func19, Try.ntmps19
    go_wp2
    go_ret
    exact ⟨rfl, by first | exact (Below.refl _ w).alloc (Nat.le_refl _) _ | exact Below.refl _ w⟩
set_option maxRecDepth 100000 in
set_option maxHeartbeats 2000000 in
theorem waits_any (h : TbAt F w t D) (th : Int) (hth : (Lit.int .i64 th).wf = true) :
    Calls Try.prog 16 #[ptV t, .int .i64 th] w fun e w' => e = .returned (.tuple #[lkV ((D.waits th).getD Lk.zero), .bool (D.waits th).isSome]) ∧ Below w.heap.size w w' := by
  have htl := h.top.2.1
  have q1 : (Instr.lookup 52 (.map D.wm) (.int .i64 th) true).run Try.prog (w.alloc (.cells #[.int .i64 0, .int .i64 0, .bool false] 31)) = .ok (.tuple #[lkV ((D.waits th).getD Lk.zero), .bool (D.waits th).isSome]) (w.alloc (.cells #[.int .i64 0, .int .i64 0, .bool false] 31)) :=
    (h.below ((Below.refl _ w).alloc (Nat.le_refl _) _)).lookW hth
  have c0 : (w.alloc (.cells #[.int .i64 0, .int .i64 0, .bool false] 31)).cell? ⟨t, 2, none⟩ = some (.map D.wm) := (h.below ((Below.refl _ w).alloc (Nat.le_refl _) _)).cells.2.2
  generalize (D.waits th).getD Lk.zero = l at *
  generalize (D.waits th).isSome = b at *
  clear h
  unfold lkV at *
  go_enter Try.func16, Try.ntmps16
  go_wp2
  have hbl : ((w.alloc (.cells #[.int .i64 l.th, .int .i64 l.tg, .bool l.al] 31)).alloc (.cells #[.int .i64 l.th, .int .i64 l.tg, .bool l.al] 31)).heap[w.heap.size]? = some (.cells #[.int .i64 l.th, .int .i64 l.tg, .bool l.al] 31) := by
    rw [Below.heap_alloc _ _ _ (by simp)]
    exact blk_new w _
  refine bodyPost_ret (results_lk2 (a := 4) (c := 5) (b := w.heap.size) (l := l) Try.results16 rfl ?_ ?_ ?_) rfl ⟨rfl, ((Below.refl _ w).alloc (Nat.le_refl _) _).alloc (by simp) _⟩
  · rw [blk_cell hbl]; rfl
  · rw [blk_cell hbl]; rfl
  · rw [blk_cell hbl]; rfl
set_option maxRecDepth 100000 in
set_option maxHeartbeats 2000000 in
theorem fits_any (h : TbAt F w t D) (l : Lk) (hl : l.wf) :
    Calls Try.prog 26 #[ptV t, lkV l] w fun e w' => e = .returned (.bool (besB (D.abs.held l.tg) l.al)) ∧ Below w.heap.size w w' := by
  have hB : Below w.heap.size w (w.alloc (.cells #[.int .i64 l.th, .int .i64 l.tg, .bool l.al] 31)) := (Below.refl _ w).alloc (Nat.le_refl _) _
  have hD : Below w.heap.size w (w.alloc (.cells #[.int .i64 l.th, .int .i64 l.tg, .bool l.al] 31)).drew := ⟨hB.os, hB.tape, hB.output, hB.size, hB.block⟩
  have h' := h.below hD
  have c0 := h'.cells.1
  cases hx : D.held l.tg with
  | none =>
    have q1 := h'.lookH_none hl.2 hx
    have q2 := eqp_none
    have ha : besB (D.abs.held l.tg) l.al = true := by simp [Td.abs, hx, besB]
    rw [ha]
    have HB := Hid.mk hD
    clear h h' hB hD ha hx
    obtain ⟨th, tg, al⟩ := l
    unfold lkV
    go_enter Try.func26, Try.ntmps26
    go_wp2
    go_region
    go_wp2
    go_ret
    exact ⟨rfl, HB.out⟩
  | some x =>
    have q1 := h'.lookH_some hl.2 hx
    have q2 := eqp_some x.b
    obtain ⟨⟨_, _, hb⟩, _, _, hs⟩ := h'.hx hx
    have c1 : (w.alloc (.cells #[.int .i64 l.th, .int .i64 l.tg, .bool l.al] 31)).drew.cell? ⟨x.b, 1, none⟩ = some (.bool x.al) := by rw [blk_cell hb]; rfl
    have ha : besB (D.abs.held l.tg) l.al = (!l.al && !x.al) := by simp [Td.abs, hx, besB]
    rw [ha]
    have HB := Hid.mk hD
    clear h h' hB hD ha hx hb hs
    obtain ⟨th, tg, al⟩ := l
    unfold lkV
    cases al
    · go_enter Try.func26, Try.ntmps26
      go_wp2
      go_region
      go_wp2
      go_ret
      exact ⟨rfl, HB.out⟩
    · go_enter Try.func26, Try.ntmps26
      go_wp2
      go_region
      go_wp2
      go_ret
      exact ⟨rfl, HB.out⟩
theorem new_any (w : World) : Calls Try.prog 10 #[] w fun e w' => e = .returned (ptV w.heap.size) ∧ w' = w.alloc (.cells #[.map none, .map none, .map none] 54) := by
  go_enter Try.func10, Try.ntmps10
  go_wp2
  go_ret
  exact ⟨rfl, rfl⟩
end
end Go.Proofs.Ytoediflikoedaaa
