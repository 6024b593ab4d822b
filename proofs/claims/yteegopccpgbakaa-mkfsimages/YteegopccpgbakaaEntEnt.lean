/-
  Entries as values and in memory: what ==, load, store, box, build and alloc do with them.
-/
import Derived.Test.YteegopccpgbakaaEntNames
namespace Go.Proofs.Yteegopccpgbakaa
open Go Go.Proofs Go.RowKit Go.Shelf
namespace Ent
/-- The cells of an entry. -/
def entC (i : Int) (s : ByteArray) : List Value := [.int .i64 i, .string s]
/-- An entry as a value. -/
def entV (i : Int) (s : ByteArray) : Value := .agg (entC i s).toArray
def noS : ByteArray := ⟨#[]⟩
/-- Are two entries equal? -/
def eqE (i : Int) (s : ByteArray) (j : Int) (t : ByteArray) : Bool := decide (i = j ∧ s = t)
theorem eqE_self (i : Int) (s : ByteArray) : eqE i s i s = true := by simp [eqE]
theorem entC_one (i : Int) (s : ByteArray) : ∀ u ∈ entC i s, u.oneCell' = true := by
  intro u hu
  simp [entC] at hu
  rcases hu with rfl | rfl <;> rfl
theorem fields26 : Try.prog.fieldsOf 48 = #[{ name := "Ino", type := 3, offset := 0, embedded := false, tag := "", pkgPath := "", byteOffset := 0 }, { name := "Name", type := 9, offset := 1, embedded := false, tag := "", pkgPath := "", byteOffset := 8 }] := by
  simp [Program.fieldsOf, Try.underlying48]
theorem equal_ent (i : Int) (s : ByteArray) (j : Int) (t : ByteArray) (w : World) : (Op.equalIn 10000 48 (entV i s) (entV j t)).run Try.prog w = .ok (eqE i s j t) w := by
  unfold entV entC
  rw [run_equalIn_agg w 9999 48 _ _ (by rw [fields26]; exact Try.underlying48) (by kernel_rfl), fields26]
  simp [Op.eqFields, part, isAgg, run_underlying Try.underlying3, run_underlying Try.underlying9, run_equalIn_int _ 9998 3 .i64 .i64 _ _ Try.underlying3, run_equalIn_string _ 9998 9 _ _ Try.underlying9, str_eq]
  by_cases h0 : i = j <;> by_cases h1 : s = t <;> simp [eqE, h0, h1]
theorem eql_ent (i : Int) (s : ByteArray) (j : Int) (t : ByteArray) (w : World) : (binOp .eql 48 (entV i s) (entV j t)).run Try.prog w = .ok (.bool (eqE i s j t)) w := by
  have h := equal_ent i s j t w
  unfold entV at h ⊢
  rw [run_eql_struct, h]
  rfl
theorem neq_ent (i : Int) (s : ByteArray) (j : Int) (t : ByteArray) (w : World) : (binOp .neq 48 (entV i s) (entV j t)).run Try.prog w = .ok (.bool (!eqE i s j t)) w := by
  have h := equal_ent i s j t w
  unfold entV at h ⊢
  rw [run_neq_struct, h]
  rfl
theorem exec_eql {ev : Operand → Value} {oi : Oper} {x y : Operand} {u : TypeId} {i j : Int} {s t : ByteArray} {w : World} (ho : oi.op = .binOp .eql 48 x y u) (hx : ev x = entV i s) (hy : ev y = entV j t) : (execOp ev oi).run Try.prog w = .ok (.value (.bool (eqE i s j t))) w := by
  unfold execOp
  rw [ho]
  simp only [hx, hy]
  have hg := run_eqGuard_agg (P := Try.prog) w .eql 48 x y (entC i s).toArray (entC j t).toArray (by kernel_rfl)
  have hb := eql_ent i s j t w
  unfold entV at hb ⊢
  simp only [Sem.run_bind, hg, hb, Result.andThen_ok]
  rfl
theorem exec_neq {ev : Operand → Value} {oi : Oper} {x y : Operand} {u : TypeId} {i j : Int} {s t : ByteArray} {w : World} (ho : oi.op = .binOp .neq 48 x y u) (hx : ev x = entV i s) (hy : ev y = entV j t) : (execOp ev oi).run Try.prog w = .ok (.value (.bool (!eqE i s j t))) w := by
  unfold execOp
  rw [ho]
  simp only [hx, hy]
  have hg := run_eqGuard_agg (P := Try.prog) w .neq 48 x y (entC i s).toArray (entC j t).toArray (by kernel_rfl)
  have hb := neq_ent i s j t w
  unfold entV at hb ⊢
  simp only [Sem.run_bind, hg, hb, Result.andThen_ok]
  rfl
/-- An entry lies at block b. -/
def NAt (b : Nat) (i : Int) (s : ByteArray) (W : World) : Prop := W.heap[b]? = some (.cells (entC i s).toArray 48 (0, 0))
theorem NAt.lt {b : Nat} {i : Int} {s : ByteArray} {W : World} (h : NAt b i s W) : b < W.heap.size := lt_of_block h
theorem NAt.below {b : Nat} {i : Int} {s : ByteArray} {W W' : World} {B : Nat} (h : NAt b i s W) (hB : Below B W W') (hb : b < B) : NAt b i s W' := by
  unfold NAt
  rw [hB.block b hb]
  exact h
theorem NAt.only {b : Nat} {i : Int} {s : ByteArray} {S : Nat → Prop} {W W' : World} (h : NAt b i s W) (hB : Only S W W') (hb : ¬ S b) : NAt b i s W' := by
  unfold NAt
  rw [hB.block b h.lt hb]
  exact h
theorem NAt.new (w : World) (i : Int) (s : ByteArray) : NAt w.heap.size i s (w.alloc (.cells (entC i s).toArray 48)) := blk_new w _
theorem NAt.cell {b : Nat} {i : Int} {s : ByteArray} {W : World} (h : NAt b i s W) : W.cell? ⟨b, 0, none⟩ = some (.int .i64 i) ∧ W.cell? ⟨b, 1, none⟩ = some (.string s) := by
  rw [blk_cell h, blk_cell h]
  exact ⟨rfl, rfl⟩
theorem info26 : (Try.prog.info? 48).map (fun i => (i.zero, i.size, i.bytes)) = some (some (entV 0 noS), 2, 24) := by kernel_rfl
theorem info26p : ∃ i0, Try.prog.info? 48 = some i0 ∧ i0.zero = some (entV 0 noS) ∧ i0.size = 2 ∧ i0.bytes = 24 := by
  cases h : Try.prog.info? 48 with
  | none => have := info26; rw [h] at this; cases this
  | some i =>
    have h2 := info26
    rw [h] at h2
    simp at h2
    exact ⟨i, rfl, h2.1, h2.2⟩
/-- A load of an entry from two cells. -/
theorem load26_at {a : Addr} {i : Int} {s : ByteArray} {W : World} (h0 : W.cell? (a.add 0) = some (.int .i64 i)) (h1 : W.cell? (a.add 1) = some (.string s)) : (Instr.loadAt 48 (.pointer (some a))).run Try.prog W = .ok (entV i s) W := by
  have h := run_loadCells_list (P := Try.prog) W a (entC i s) (fun j v hj => by
    match j, hj with
    | 0, hj => cases hj; exact h0
    | 1, hj => cases hj; exact h1)
  have h2 : (loadCells a 2).run Try.prog W = .ok (entC i s).toArray W := h
  simp [Instr.loadAt, Instr.sureAddr, loadVar, h2, entV]
theorem add_zero (a : Addr) : a.add 0 = a := by simp [Addr.add]
theorem load26_run {b : Nat} {i : Int} {s : ByteArray} {W : World} (hN : NAt b i s W) : (Instr.loadAt 48 (.pointer (some ⟨b, 0, none⟩))).run Try.prog W = .ok (entV i s) W :=
  load26_at (by rw [add_zero]; exact hN.cell.1) (by rw [add_at]; exact hN.cell.2)
theorem exec_load26 {ev : Operand → Value} {oi : Oper} {x : Operand} {a : Addr} {i : Int} {s : ByteArray} {W : World} (ho : oi.op = .load 48 x) (hx : ev x = .pointer (some a)) (hr : (Instr.loadAt 48 (.pointer (some a))).run Try.prog W = .ok (entV i s) W) : (execOp ev oi).run Try.prog W = .ok (.value (entV i s)) W := by
  unfold execOp
  rw [ho]
  simp only [hx, Sem.run_bind, hr, Result.andThen_ok]
  rfl
theorem store26_run {b : Nat} {i j : Int} {s t : ByteArray} {W : World} (hN : NAt b i s W) : ∃ W', (Instr.storeAt 48 (.pointer (some ⟨b, 0, none⟩)) (entV j t)).run Try.prog W = .ok () W' ∧ NAt b j t W' ∧ Only (fun k => k = b) W W' := by
  have hst := run_storeCells_at Try.prog b 0 48 (entC j t) 0 (entC i s).toArray W hN (by simp [entC]) (entC_one _ _)
  have e : ((entC i s).toArray.toList.take (0 + 0) ++ entC j t ++ (entC i s).toArray.toList.drop (0 + 0 + (entC j t).length)).toArray = (entC j t).toArray := by
    rw [List.drop_of_length_le (by simp [entC])]
    simp
  rw [e] at hst
  refine ⟨_, ?_, setRow_heap W b _ _ 48 _ hN, (Only.refl (fun k => k = b) W).setRow (.inl rfl) _⟩
  · have hl : (entC j t).length = 2 := rfl
    simp [Instr.storeAt, Instr.sureAddr, storeVar, entV, Value.cells, hl]
    simpa using hst
theorem alloc26_run (W : World) : (Instr.alloc 48 true (.tuple #[])).run Try.prog W = .ok (.pointer (some ⟨W.heap.size, 0, none⟩)) (W.alloc (.cells (entC 0 noS).toArray 48)) := by
  obtain ⟨i0, hi, hz0, hz1, hz2⟩ := info26p
  simp [Instr.alloc, zeroValue, typeInfo, hi, hz0, newVar, newRow, entV, Value.cells]
theorem exec_alloc26 {ev : Operand → Value} {oi : Oper} {W : World} (ho : oi.op = .alloc 48) : (execOp ev oi).run Try.prog W = .ok (.value (.pointer (some ⟨W.heap.size, 0, none⟩))) (W.alloc (.cells (entC 0 noS).toArray 48)) := by
  unfold execOp
  rw [ho]
  simp only [Sem.run_bind, alloc26_run, Result.andThen_ok]
  rfl
theorem exec_box26 {ev : Operand → Value} {oi : Oper} {x : Operand} {i : Int} {s : ByteArray} {W : World} (ho : oi.op = .box 48 x) (hx : ev x = entV i s) : (execOp ev oi).run Try.prog W = .ok (.value (.pointer (some ⟨W.heap.size, 0, none⟩))) (W.alloc (.cells (entC i s).toArray 48)) := by
  unfold execOp
  rw [ho]
  simp only [hx]
  simp [Instr.box, newVar, newRow, entV, Value.cells]
theorem exec_build26 {ev : Operand → Value} {oi : Oper} {W : World} (ho : oi.op = .build 48 #[]) : (execOp ev oi).run Try.prog W = .ok (.value (entV 0 noS)) W := by
  obtain ⟨i0, hi, hz0, hz1, hz2⟩ := info26p
  unfold execOp
  rw [ho]
  simp [Instr.build, run_underlying Try.underlying48, zeroValue, typeInfo, hi, hz0, entV, Value.cells, Instr.fill]
theorem exec_build26two {ev : Operand → Value} {oi : Oper} {x y : Operand} {i : Int} {s : ByteArray} {W : World} (ho : oi.op = .build 48 #[(0, x), (1, y)]) (hx : ev x = .int .i64 i) (hy : ev y = .string s) : (execOp ev oi).run Try.prog W = .ok (.value (entV i s)) W := by
  obtain ⟨i0, hi, hz0, hz1, hz2⟩ := info26p
  unfold execOp
  rw [ho]
  simp [Instr.build, run_underlying Try.underlying48, zeroValue, typeInfo, hi, hz0, entV, Value.cells, Instr.fill, hx, hy, noS, entC]
/-- An operation whose outcome is known. -/
theorem wpList_known {P : Program} {w : World} {ops : Array Oper} {rest : List Oper} {o : Oper} {a : Act} {Q : Exit → Act → World → Prop} (hw : Region.wanted o (yielded ops a.tmps) = true) (v : Value) (w' : World)
    (hrun : (execOp a.eval o).run P w = .ok (.value v) w') (h : wpList P ops Q rest (a.put o.dst v) w') : wpList P ops Q (o :: rest) a w := by
  refine BigFrame.wpList_want hw fun K hK => ?_
  unfold Oper.wp
  rw [hrun, Oper.upon_value]
  exact hK _ _ h
theorem wpList_stored {P : Program} {w : World} {ops : Array Oper} {rest : List Oper} {o : Oper} {a : Act} {Q : Exit → Act → World → Prop} (hw : Region.wanted o (yielded ops a.tmps) = true) (w' : World)
    (hrun : (execOp a.eval o).run P w = .ok .skip w') (h : wpList P ops Q rest (a.put o.dst undef) w') : wpList P ops Q (o :: rest) a w := by
  refine BigFrame.wpList_want hw fun K hK => ?_
  unfold Oper.wp
  rw [hrun, Oper.upon_skip]
  exact hK _ _ h
theorem exec_strneq {ev : Operand → Value} {oi : Oper} {x y : Operand} {u : TypeId} {s t : ByteArray} {w : World} (c : Bool) (hc : (s.toList == t.toList) = c) (ho : oi.op = .binOp .neq 9 x y u) (hx : ev x = .string s) (hy : ev y = .string t) : (execOp ev oi).run Try.prog w = .ok (.value (.bool (!c))) w := by
  subst hc
  unfold execOp
  rw [ho]
  simp only [hx, hy]
  go_simp
theorem exec_streql {ev : Operand → Value} {oi : Oper} {x y : Operand} {u : TypeId} {s t : ByteArray} {w : World} (c : Bool) (hc : (s.toList == t.toList) = c) (ho : oi.op = .binOp .eql 9 x y u) (hx : ev x = .string s) (hy : ev y = .string t) : (execOp ev oi).run Try.prog w = .ok (.value (.bool c)) w := by
  subst hc
  unfold execOp
  rw [ho]
  simp only [hx, hy]
  go_simp
/-! One operation each, its form asked for first. -/
section
variable {w : World} {ops : Array Oper} {rest : List Oper} {o : Oper} {a : Act} {Q : Exit → Act → World → Prop}
theorem wpL_load (x : Operand) (ho : o.op = .load 48 x) (hw : Region.wanted o (yielded ops a.tmps) = true) (b : Nat) (i : Int) (s : ByteArray) (hx : a.eval x = .pointer (some ⟨b, 0, none⟩)) (hN : NAt b i s w) (h : wpList Try.prog ops Q rest (a.put o.dst (entV i s)) w) : wpList Try.prog ops Q (o :: rest) a w :=
  wpList_known hw _ _ (exec_load26 ho hx (load26_run hN)) h
theorem wpL_loadat (x : Operand) (ho : o.op = .load 48 x) (hw : Region.wanted o (yielded ops a.tmps) = true) (p : Addr) (i : Int) (s : ByteArray) (hx : a.eval x = .pointer (some p)) (hr : (Instr.loadAt 48 (.pointer (some p))).run Try.prog w = .ok (entV i s) w) (h : wpList Try.prog ops Q rest (a.put o.dst (entV i s)) w) : wpList Try.prog ops Q (o :: rest) a w :=
  wpList_known hw _ _ (exec_load26 ho hx hr) h
theorem wpL_store (p x : Operand) (ho : o.op = .store 48 p x) (hw : Region.wanted o (yielded ops a.tmps) = true) (v u : Value) (w' : World) (hp : a.eval p = v) (hx : a.eval x = u) (hr : (Instr.storeAt 48 v u).run Try.prog w = .ok () w') (h : wpList Try.prog ops Q rest (a.put o.dst undef) w') : wpList Try.prog ops Q (o :: rest) a w :=
  wpList_stored hw _ (exec_store ho hp hx hr) h
theorem wpL_build (ho : o.op = .build 48 #[]) (hw : Region.wanted o (yielded ops a.tmps) = true) (h : wpList Try.prog ops Q rest (a.put o.dst (entV 0 noS)) w) : wpList Try.prog ops Q (o :: rest) a w :=
  wpList_known hw _ _ (exec_build26 ho) h
theorem wpL_buildtwo (x y : Operand) (ho : o.op = .build 48 #[(0, x), (1, y)]) (hw : Region.wanted o (yielded ops a.tmps) = true) (i : Int) (s : ByteArray) (hx : a.eval x = .int .i64 i) (hy : a.eval y = .string s) (h : wpList Try.prog ops Q rest (a.put o.dst (entV i s)) w) : wpList Try.prog ops Q (o :: rest) a w :=
  wpList_known hw _ _ (exec_build26two ho hx hy) h
theorem wpL_alloc (ho : o.op = .alloc 48) (hw : Region.wanted o (yielded ops a.tmps) = true) (b : Nat) (W1 : World) (hb : b = w.heap.size) (hW : W1 = w.alloc (.cells (entC 0 noS).toArray 48)) (h : wpList Try.prog ops Q rest (a.put o.dst (.pointer (some ⟨b, 0, none⟩))) W1) : wpList Try.prog ops Q (o :: rest) a w := by
  subst hb hW
  exact wpList_known hw _ _ (exec_alloc26 ho) h
theorem wpL_neq (x y : Operand) (u : TypeId) (ho : o.op = .binOp .neq 48 x y u) (hw : Region.wanted o (yielded ops a.tmps) = true) (i : Int) (s : ByteArray) (j : Int) (t : ByteArray) (c : Bool) (hc : eqE i s j t = c) (hx : a.eval x = entV i s) (hy : a.eval y = entV j t) (h : wpList Try.prog ops Q rest (a.put o.dst (.bool (!c))) w) : wpList Try.prog ops Q (o :: rest) a w := by
  subst hc
  exact wpList_known hw _ _ (exec_neq ho hx hy) h
theorem wpL_eql (x y : Operand) (u : TypeId) (ho : o.op = .binOp .eql 48 x y u) (hw : Region.wanted o (yielded ops a.tmps) = true) (i : Int) (s : ByteArray) (j : Int) (t : ByteArray) (c : Bool) (hc : eqE i s j t = c) (hx : a.eval x = entV i s) (hy : a.eval y = entV j t) (h : wpList Try.prog ops Q rest (a.put o.dst (.bool c)) w) : wpList Try.prog ops Q (o :: rest) a w := by
  subst hc
  exact wpList_known hw _ _ (exec_eql ho hx hy) h
theorem wpL_box (x : Operand) (ho : o.op = .box 48 x) (hw : Region.wanted o (yielded ops a.tmps) = true) (i : Int) (s : ByteArray) (b : Nat) (W1 : World) (hb : b = w.heap.size) (hW : W1 = w.alloc (.cells (entC i s).toArray 48)) (hx : a.eval x = entV i s) (h : wpList Try.prog ops Q rest (a.put o.dst (.pointer (some ⟨b, 0, none⟩))) W1) : wpList Try.prog ops Q (o :: rest) a w := by
  subst hb hW
  exact wpList_known hw _ _ (exec_box26 ho hx) h
theorem wpL_conv (x : Operand) (ho : o.op = .convert 26 9 x) (hw : Region.wanted o (yielded ops a.tmps) = true) (ao : Option Addr) (n c : Nat) (xs : List Int) (hx : a.eval x = .slice ao n c) (hB : BAt w ao n xs) (SX : ByteArray) (hS : SX = strOfNums xs) (h : wpList Try.prog ops Q rest (a.put o.dst (.string SX)) w) : wpList Try.prog ops Q (o :: rest) a w := by
  subst hS
  exact wpList_known hw _ _ (exec_convert ho hx (conv_bytes _ _ _ _ _ hB)) h
theorem wpL_strneq (x y : Operand) (u : TypeId) (ho : o.op = .binOp .neq 9 x y u) (hw : Region.wanted o (yielded ops a.tmps) = true) (s t : ByteArray) (c : Bool) (hc : (s.toList == t.toList) = c) (hx : a.eval x = .string s) (hy : a.eval y = .string t) (h : wpList Try.prog ops Q rest (a.put o.dst (.bool (!c))) w) : wpList Try.prog ops Q (o :: rest) a w :=
  wpList_known hw _ _ (exec_strneq c hc ho hx hy) h
theorem wpL_streql (x y : Operand) (u : TypeId) (ho : o.op = .binOp .eql 9 x y u) (hw : Region.wanted o (yielded ops a.tmps) = true) (s t : ByteArray) (c : Bool) (hc : (s.toList == t.toList) = c) (hx : a.eval x = .string s) (hy : a.eval y = .string t) (h : wpList Try.prog ops Q rest (a.put o.dst (.bool c)) w) : wpList Try.prog ops Q (o :: rest) a w :=
  wpList_known hw _ _ (exec_streql c hc ho hx hy) h
end
end Ent
end Go.Proofs.Yteegopccpgbakaa
