/-
  Inodes as values and in memory: what ==, load, store and alloc do with them.
-/
import Derived.Test.YteegopccpgbakaaTell3
import Derived.Laws.StructEq
namespace Go.Proofs.Yteegopccpgbakaa
open Go Go.Proofs Go.RowKit Go.Shelf
namespace Din
/-- An inode as a value: its thirteen numbers. -/
def inoV (l : List Int) : Value := .agg (Iy l).toArray
theorem list13 (l : List Int) (h : l.length = 13) : ∃ a0 a1 a2 a3 a4 a5 a6 a7 a8 a9 a10 a11 a12, l = [a0, a1, a2, a3, a4, a5, a6, a7, a8, a9, a10, a11, a12] := by
  match l, h with
  | [a0, a1, a2, a3, a4, a5, a6, a7, a8, a9, a10, a11, a12], _ => exact ⟨a0, a1, a2, a3, a4, a5, a6, a7, a8, a9, a10, a11, a12, rfl⟩
theorem equal_array (d : Nat) (a b : List Int) (ha : a.length = 8) (hb : b.length = 8) (w : World) : (Op.equalIn ((d + 1) + 1) 43 (.agg (Iy a).toArray) (.agg (Iy b).toArray)).run Try.prog w = .ok (eqB a b) w := by
  match a, ha, b, hb with
  | [a0, a1, a2, a3, a4, a5, a6, a7], _, [b0, b1, b2, b3, b4, b5, b6, b7], _ =>
    have hs : ∀ w, (sizeOf 3).run Try.prog w = .ok 1 w := by
      intro w
      obtain ⟨i0, hi, hz0, hz1, hz2⟩ := info3p
      simp [sizeOf, typeInfo, hi, hz1]
    unfold Op.equalIn
    simp only [Iy, List.map_cons, List.map_nil]
    simp [run_underlying Try.underlying43, hs, part, isAgg, run_underlying Try.underlying3, run_equalIn_int _ d 3 .i64 .i64 _ _ Try.underlying3, List.range']
    by_cases h0 : a0 = b0 <;> by_cases h1 : a1 = b1 <;> by_cases h2 : a2 = b2 <;> by_cases h3 : a3 = b3 <;> by_cases h4 : a4 = b4 <;> by_cases h5 : a5 = b5 <;> by_cases h6 : a6 = b6 <;> by_cases h7 : a7 = b7 <;> simp [eqB, h0, h1, h2, h3, h4, h5, h6, h7]
theorem fields24 : Try.prog.fieldsOf 45 = #[{ name := "Kind", type := 3, offset := 0, embedded := false, tag := "", pkgPath := "", byteOffset := 0 }, { name := "Links", type := 3, offset := 1, embedded := false, tag := "", pkgPath := "", byteOffset := 8 }, { name := "Size", type := 3, offset := 2, embedded := false, tag := "", pkgPath := "", byteOffset := 16 }, { name := "Direct", type := 43, offset := 3, embedded := false, tag := "", pkgPath := "", byteOffset := 24 }, { name := "Single", type := 3, offset := 11, embedded := false, tag := "", pkgPath := "", byteOffset := 88 }, { name := "Double", type := 3, offset := 12, embedded := false, tag := "", pkgPath := "", byteOffset := 96 }] := by
  simp [Program.fieldsOf, Try.underlying45]
theorem part_direct (a0 a1 a2 a3 a4 a5 a6 a7 a8 a9 a10 a11 a12 : Int) (w : World) : (part 43 (Iy [a0, a1, a2, a3, a4, a5, a6, a7, a8, a9, a10, a11, a12]).toArray 3).run Try.prog w = .ok (.agg (Iy [a3, a4, a5, a6, a7, a8, a9, a10]).toArray) w := by
  simp [part, isAgg, run_underlying Try.underlying43, Iy]
theorem part_int (l : List Int) (i : Nat) (h : i < l.length) (w : World) : (part 3 (Iy l).toArray i).run Try.prog w = .ok (.int .i64 (l.getD i 0)) w := by
  have e := Iy_get l i h
  simp [part, isAgg, run_underlying Try.underlying3, e]
theorem equal_ino (l m : List Int) (hl : l.length = 13) (hm : m.length = 13) (w : World) : (Op.equalIn 10000 45 (inoV l) (inoV m)).run Try.prog w = .ok (eqB l m) w := by
  obtain ⟨a0, a1, a2, a3, a4, a5, a6, a7, a8, a9, a10, a11, a12, rfl⟩ := list13 l hl
  obtain ⟨b0, b1, b2, b3, b4, b5, b6, b7, b8, b9, b10, b11, b12, rfl⟩ := list13 m hm
  unfold inoV
  rw [run_equalIn_agg w 9999 45 _ _ (by rw [fields24]; exact Try.underlying45) (by kernel_rfl), fields24]
  have ea := equal_array 9997 [a3, a4, a5, a6, a7, a8, a9, a10] [b3, b4, b5, b6, b7, b8, b9, b10] rfl rfl
  simp [Op.eqFields, part_direct, part_int, ea, run_equalIn_int _ 9998 3 .i64 .i64 _ _ Try.underlying3]
  by_cases h0 : a0 = b0 <;> by_cases h1 : a1 = b1 <;> by_cases h2 : a2 = b2 <;> by_cases h3 : [a3, a4, a5, a6, a7, a8, a9, a10] = [b3, b4, b5, b6, b7, b8, b9, b10] <;> by_cases h4 : a11 = b11 <;> by_cases h5 : a12 = b12 <;> simp_all [eqB]
theorem eql_ino (l m : List Int) (hl : l.length = 13) (hm : m.length = 13) (w : World) : (binOp .eql 45 (inoV l) (inoV m)).run Try.prog w = .ok (.bool (eqB l m)) w := by
  have h := equal_ino l m hl hm w
  unfold inoV at h ⊢
  rw [run_eql_struct, h]
  rfl
theorem neq_ino (l m : List Int) (hl : l.length = 13) (hm : m.length = 13) (w : World) : (binOp .neq 45 (inoV l) (inoV m)).run Try.prog w = .ok (.bool (!eqB l m)) w := by
  have h := equal_ino l m hl hm w
  unfold inoV at h ⊢
  rw [run_neq_struct, h]
  rfl
theorem exec_eql {ev : Operand → Value} {oi : Oper} {x y : Operand} {u : TypeId} {l m : List Int} {w : World} (ho : oi.op = .binOp .eql 45 x y u) (hx : ev x = inoV l) (hy : ev y = inoV m) (hl : l.length = 13) (hm : m.length = 13) : (execOp ev oi).run Try.prog w = .ok (.value (.bool (eqB l m))) w := by
  unfold execOp
  rw [ho]
  simp only [hx, hy]
  have hg := run_eqGuard_agg (P := Try.prog) w .eql 45 x y (Iy l).toArray (Iy m).toArray (by kernel_rfl)
  have hb := eql_ino l m hl hm w
  unfold inoV at hb ⊢
  simp only [Sem.run_bind, hg, hb, Result.andThen_ok]
  rfl
theorem exec_neq {ev : Operand → Value} {oi : Oper} {x y : Operand} {u : TypeId} {l m : List Int} {w : World} (ho : oi.op = .binOp .neq 45 x y u) (hx : ev x = inoV l) (hy : ev y = inoV m) (hl : l.length = 13) (hm : m.length = 13) : (execOp ev oi).run Try.prog w = .ok (.value (.bool (!eqB l m))) w := by
  unfold execOp
  rw [ho]
  simp only [hx, hy]
  have hg := run_eqGuard_agg (P := Try.prog) w .neq 45 x y (Iy l).toArray (Iy m).toArray (by kernel_rfl)
  have hb := neq_ino l m hl hm w
  unfold inoV at hb ⊢
  simp only [Sem.run_bind, hg, hb, Result.andThen_ok]
  rfl
/-- An inode lies at block b. -/
def NAt (b : Nat) (l : List Int) (W : World) : Prop := W.heap[b]? = some (.cells (Iy l).toArray 45 (0, 0))
theorem NAt.lt {b : Nat} {l : List Int} {W : World} (h : NAt b l W) : b < W.heap.size := lt_of_block h
theorem NAt.below {b : Nat} {l : List Int} {W W' : World} {B : Nat} (h : NAt b l W) (hB : Below B W W') (hb : b < B) : NAt b l W' := by
  unfold NAt
  rw [hB.block b hb]
  exact h
theorem NAt.only {b : Nat} {l : List Int} {S : Nat → Prop} {W W' : World} (h : NAt b l W) (hB : Only S W W') (hb : ¬ S b) : NAt b l W' := by
  unfold NAt
  rw [hB.block b h.lt hb]
  exact h
theorem NAt.new (w : World) (l : List Int) : NAt w.heap.size l (w.alloc (.cells (Iy l).toArray 45)) := blk_new w _
theorem NAt.cell {b : Nat} {l : List Int} {W : World} (h : NAt b l W) (i : Nat) (hi : i < l.length) : W.cell? ⟨b, i, none⟩ = some (.int .i64 (l.getD i 0)) := by
  rw [blk_cell h]
  simpa using Iy_get l i hi
theorem info24 : (Try.prog.info? 45).map (fun i => (i.zero, i.size)) = some (some (inoV (zeros 13)), 13) := by kernel_rfl
theorem info24p : ∃ i0, Try.prog.info? 45 = some i0 ∧ i0.zero = some (inoV (zeros 13)) ∧ i0.size = 13 := by
  cases h : Try.prog.info? 45 with
  | none => have := info24; rw [h] at this; cases this
  | some i =>
    have h2 := info24
    rw [h] at h2
    simp at h2
    exact ⟨i, rfl, h2.1, h2.2⟩
theorem load24_run {b : Nat} {l : List Int} {W : World} (hN : NAt b l W) (hl : l.length = 13) : (Instr.loadAt 45 (.pointer (some ⟨b, 0, none⟩))).run Try.prog W = .ok (inoV l) W := by
  have h := run_loadCells_list (P := Try.prog) W ⟨b, 0, none⟩ (Iy l) (fun j v hj => by
    have hjl := (List.getElem?_eq_some_iff.1 hj).1
    rw [Iy_length] at hjl
    rw [Iy_get l j hjl] at hj
    rw [add_at, Nat.zero_add, hN.cell j hjl]
    exact hj)
  rw [Iy_length, hl] at h
  simp [Instr.loadAt, Instr.sureAddr, loadVar, h, inoV]
theorem exec_load24 {ev : Operand → Value} {oi : Oper} {x : Operand} {b : Nat} {l : List Int} {W : World} (ho : oi.op = .load 45 x) (hx : ev x = .pointer (some ⟨b, 0, none⟩)) (hN : NAt b l W) (hl : l.length = 13) : (execOp ev oi).run Try.prog W = .ok (.value (inoV l)) W := by
  unfold execOp
  rw [ho]
  simp only [hx, Sem.run_bind, load24_run hN hl, Result.andThen_ok]
  rfl
theorem store24_run {b : Nat} {l m : List Int} {W : World} (hN : NAt b l W) (hl : l.length = 13) (hm : m.length = 13) : ∃ W', (Instr.storeAt 45 (.pointer (some ⟨b, 0, none⟩)) (inoV m)).run Try.prog W = .ok () W' ∧ NAt b m W' ∧ Only (fun k => k = b) W W' := by
  have hst := run_storeCells_at Try.prog b 0 45 (Iy m) 0 (Iy l).toArray W hN (by simp [Iy_length, hl, hm]) (Iy_one _)
  have e : ((Iy l).toArray.toList.take (0 + 0) ++ Iy m ++ (Iy l).toArray.toList.drop (0 + 0 + (Iy m).length)).toArray = (Iy m).toArray := by
    rw [List.drop_of_length_le (by simp [Iy_length, hl, hm])]
    simp
  rw [e] at hst
  refine ⟨_, ?_, setRow_heap W b _ _ 45 _ hN, (Only.refl (fun k => k = b) W).setRow (.inl rfl) _⟩
  · simp [Instr.storeAt, Instr.sureAddr, storeVar, inoV, Value.cells, Iy_length, hm]
    simpa using hst
theorem exec_store24 {ev : Operand → Value} {oi : Oper} {p x : Operand} {b : Nat} {l m : List Int} {W : World} (ho : oi.op = .store 45 p x) (hp : ev p = .pointer (some ⟨b, 0, none⟩)) (hx : ev x = inoV m) (hN : NAt b l W) (hl : l.length = 13) (hm : m.length = 13) : ∃ W', (execOp ev oi).run Try.prog W = .ok .skip W' ∧ NAt b m W' ∧ Only (fun k => k = b) W W' := by
  obtain ⟨W', h1, h2, h3⟩ := store24_run hN hl hm
  exact ⟨W', exec_store ho hp hx h1, h2, h3⟩
theorem alloc24_run (W : World) : (Instr.alloc 45 true (.tuple #[])).run Try.prog W = .ok (.pointer (some ⟨W.heap.size, 0, none⟩)) (W.alloc (.cells (Iy (zeros 13)).toArray 45)) := by
  obtain ⟨i0, hi, hz0, hz1⟩ := info24p
  simp [Instr.alloc, zeroValue, typeInfo, hi, hz0, newVar, newRow, inoV, Value.cells]
theorem exec_alloc24 {ev : Operand → Value} {oi : Oper} {W : World} (ho : oi.op = .alloc 45) : (execOp ev oi).run Try.prog W = .ok (.value (.pointer (some ⟨W.heap.size, 0, none⟩))) (W.alloc (.cells (Iy (zeros 13)).toArray 45)) := by
  unfold execOp
  rw [ho]
  simp only [Sem.run_bind, alloc24_run, Result.andThen_ok]
  rfl
theorem exec_box24 {ev : Operand → Value} {oi : Oper} {x : Operand} {l : List Int} {W : World} (ho : oi.op = .box 45 x) (hx : ev x = inoV l) : (execOp ev oi).run Try.prog W = .ok (.value (.pointer (some ⟨W.heap.size, 0, none⟩))) (W.alloc (.cells (Iy l).toArray 45)) := by
  unfold execOp
  rw [ho]
  simp only [hx]
  simp [Instr.box, newVar, newRow, inoV, Value.cells]
theorem exec_build24 {ev : Operand → Value} {oi : Oper} {W : World} (ho : oi.op = .build 45 #[]) : (execOp ev oi).run Try.prog W = .ok (.value (inoV (zeros 13))) W := by
  obtain ⟨i0, hi, hz0, hz1⟩ := info24p
  unfold execOp
  rw [ho]
  simp [Instr.build, run_underlying Try.underlying45, zeroValue, typeInfo, hi, hz0, inoV, Value.cells, Instr.fill]
/-- An operation whose outcome is known. -/
theorem wpList_known {P : Program} {w : World} {ops : Array Oper} {rest : List Oper} {o : Oper} {a : Act} {Q : Exit → Act → World → Prop} (hw : Region.wanted o (yielded ops a.tmps) = true) (v : Value) (w' : World)
    (hrun : (execOp a.eval o).run P w = .ok (.value v) w') (h : wpList P ops Q rest (a.put o.dst v) w') : wpList P ops Q (o :: rest) a w := by
  refine BigFrame.wpList_want hw fun K hK => ?_
  unfold Oper.wp
  rw [hrun, Oper.upon_value]
  exact hK _ _ h
theorem wpList_stored {P : Program} {w : World} {ops : Array Oper} {rest : List Oper} {o : Oper} {a : Act} {Q : Exit → Act → World → Prop} (hw : Region.wanted o (yielded ops a.tmps) = true) (w' : World)
    (hrun : (execOp a.eval o).run P w = .ok .skip w') (h : wpList P ops Q rest (a.put o.dst undef) w') : wpList P ops Q (o :: rest) a w := by
  refine BigFrame.wpList_want hw fun K hK => ?_
  unfold Oper.wp
  rw [hrun, Oper.upon_skip]
  exact hK _ _ h
theorem list13_at (l : List Int) (hl : l.length = 13) (i : Nat) (hi : i < 13) : l.getD i 0 = l[i] := by
  simp [List.getD, List.getElem?_eq_getElem (show i < l.length by omega)]
end Din
end Go.Proofs.Yteegopccpgbakaa
