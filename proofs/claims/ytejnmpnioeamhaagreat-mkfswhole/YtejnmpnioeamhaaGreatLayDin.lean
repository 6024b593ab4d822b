/-
  Inodes as values and in memory: what ==, load, store and alloc do with them.
-/
import Derived.Test.YtejnmpnioeamhaaGreatLayB
import Derived.Laws.StructEq
import Derived.Deep.Cut
import Derived.Deep.CutRange
import Derived.Deep.CutBlock
namespace Go.Proofs.YtejnmpnioeamhaaGreat
open Go Go.Proofs Go.RowKit Go.Shelf
namespace Din
/-- An inode as a value: its thirteen numbers. -/
def inoV (l : List Int) : Value := .agg (Iy l).toArray
set_option maxRecDepth 100000 in
theorem list13 (l : List Int) (h : l.length = 13) : ∃ a0 a1 a2 a3 a4 a5 a6 a7 a8 a9 a10 a11 a12, l = [a0, a1, a2, a3, a4, a5, a6, a7, a8, a9, a10, a11, a12] := by
  match l, h with
  | [a0, a1, a2, a3, a4, a5, a6, a7, a8, a9, a10, a11, a12], _ => exact ⟨a0, a1, a2, a3, a4, a5, a6, a7, a8, a9, a10, a11, a12, rfl⟩
set_option maxRecDepth 100000 in
theorem equal_array (d : Nat) (a b : List Int) (ha : a.length = 8) (hb : b.length = 8) (w : World) : (Op.equalIn ((d + 1) + 1) 53 (.agg (Iy a).toArray) (.agg (Iy b).toArray)).run Tryz.prog w = .ok (eqB a b) w := by
  match a, ha, b, hb with
  | [a0, a1, a2, a3, a4, a5, a6, a7], _, [b0, b1, b2, b3, b4, b5, b6, b7], _ =>
    have hs : ∀ w, (sizeOf 3).run Tryz.prog w = .ok 1 w := by
      intro w
      obtain ⟨i0, hi, hz0, hz1, hz2⟩ := info3p
      simp [sizeOf, typeInfo, hi, hz1]
    unfold Op.equalIn
    simp only [Iy, List.map_cons, List.map_nil]
    simp [run_underlying Tryz.underlying53, hs, part, isAgg, run_underlying Tryz.underlying3, run_equalIn_int _ d 3 .i64 .i64 _ _ Tryz.underlying3, List.range']
    by_cases h0 : a0 = b0 <;> by_cases h1 : a1 = b1 <;> by_cases h2 : a2 = b2 <;> by_cases h3 : a3 = b3 <;> by_cases h4 : a4 = b4 <;> by_cases h5 : a5 = b5 <;> by_cases h6 : a6 = b6 <;> by_cases h7 : a7 = b7 <;> simp [eqB, h0, h1, h2, h3, h4, h5, h6, h7]
set_option maxRecDepth 100000 in
theorem fields24 : Tryz.prog.fieldsOf 55 = #[{ name := "Kind", type := 3, offset := 0, embedded := false, tag := "", pkgPath := "", byteOffset := 0 }, { name := "Links", type := 3, offset := 1, embedded := false, tag := "", pkgPath := "", byteOffset := 8 }, { name := "Size", type := 3, offset := 2, embedded := false, tag := "", pkgPath := "", byteOffset := 16 }, { name := "Direct", type := 53, offset := 3, embedded := false, tag := "", pkgPath := "", byteOffset := 24 }, { name := "Single", type := 3, offset := 11, embedded := false, tag := "", pkgPath := "", byteOffset := 88 }, { name := "Double", type := 3, offset := 12, embedded := false, tag := "", pkgPath := "", byteOffset := 96 }] := by
  simp [Program.fieldsOf, Tryz.underlying55]
set_option maxRecDepth 100000 in
theorem part_direct (a0 a1 a2 a3 a4 a5 a6 a7 a8 a9 a10 a11 a12 : Int) (w : World) : (part 53 (Iy [a0, a1, a2, a3, a4, a5, a6, a7, a8, a9, a10, a11, a12]).toArray 3).run Tryz.prog w = .ok (.agg (Iy [a3, a4, a5, a6, a7, a8, a9, a10]).toArray) w := by
  simp [part, isAgg, run_underlying Tryz.underlying53, Iy]
theorem part_int (l : List Int) (i : Nat) (h : i < l.length) (w : World) : (part 3 (Iy l).toArray i).run Tryz.prog w = .ok (.int .i64 (l.getD i 0)) w := by
  have e := Iy_get l i h
  simp [part, isAgg, run_underlying Tryz.underlying3, e]
set_option maxRecDepth 100000 in
theorem equal_ino (l m : List Int) (hl : l.length = 13) (hm : m.length = 13) (w : World) : (Op.equalIn 10000 55 (inoV l) (inoV m)).run Tryz.prog w = .ok (eqB l m) w := by
  obtain ⟨a0, a1, a2, a3, a4, a5, a6, a7, a8, a9, a10, a11, a12, rfl⟩ := list13 l hl
  obtain ⟨b0, b1, b2, b3, b4, b5, b6, b7, b8, b9, b10, b11, b12, rfl⟩ := list13 m hm
  unfold inoV
  rw [run_equalIn_agg w 9999 55 _ _ (by rw [fields24]; exact Tryz.underlying55) (by kernel_rfl), fields24]
  have ea := equal_array 9997 [a3, a4, a5, a6, a7, a8, a9, a10] [b3, b4, b5, b6, b7, b8, b9, b10] rfl rfl
  simp [Op.eqFields, part_direct, part_int, ea, run_equalIn_int _ 9998 3 .i64 .i64 _ _ Tryz.underlying3]
  by_cases h0 : a0 = b0 <;> by_cases h1 : a1 = b1 <;> by_cases h2 : a2 = b2 <;> by_cases h3 : [a3, a4, a5, a6, a7, a8, a9, a10] = [b3, b4, b5, b6, b7, b8, b9, b10] <;> by_cases h4 : a11 = b11 <;> by_cases h5 : a12 = b12 <;> simp_all [eqB]
theorem eql_ino (l m : List Int) (hl : l.length = 13) (hm : m.length = 13) (w : World) : (binOp .eql 55 (inoV l) (inoV m)).run Tryz.prog w = .ok (.bool (eqB l m)) w := by
  have h := equal_ino l m hl hm w
  unfold inoV at h ⊢
  rw [run_eql_struct, h]
  rfl
theorem neq_ino (l m : List Int) (hl : l.length = 13) (hm : m.length = 13) (w : World) : (binOp .neq 55 (inoV l) (inoV m)).run Tryz.prog w = .ok (.bool (!eqB l m)) w := by
  have h := equal_ino l m hl hm w
  unfold inoV at h ⊢
  rw [run_neq_struct, h]
  rfl
set_option maxRecDepth 100000 in
theorem exec_eql {ev : Operand → Value} {oi : Oper} {x y : Operand} {u : TypeId} {l m : List Int} {w : World} (ho : oi.op = .binOp .eql 55 x y u) (hx : ev x = inoV l) (hy : ev y = inoV m) (hl : l.length = 13) (hm : m.length = 13) : (execOp ev oi).run Tryz.prog w = .ok (.value (.bool (eqB l m))) w := by
  unfold execOp
  rw [ho]
  simp only [hx, hy]
  have hg := run_eqGuard_agg (P := Tryz.prog) w .eql 55 x y (Iy l).toArray (Iy m).toArray (by kernel_rfl)
  have hb := eql_ino l m hl hm w
  unfold inoV at hb ⊢
  simp only [Sem.run_bind, hg, hb, Result.andThen_ok]
  rfl
set_option maxRecDepth 100000 in
theorem exec_neq {ev : Operand → Value} {oi : Oper} {x y : Operand} {u : TypeId} {l m : List Int} {w : World} (ho : oi.op = .binOp .neq 55 x y u) (hx : ev x = inoV l) (hy : ev y = inoV m) (hl : l.length = 13) (hm : m.length = 13) : (execOp ev oi).run Tryz.prog w = .ok (.value (.bool (!eqB l m))) w := by
  unfold execOp
  rw [ho]
  simp only [hx, hy]
  have hg := run_eqGuard_agg (P := Tryz.prog) w .neq 55 x y (Iy l).toArray (Iy m).toArray (by kernel_rfl)
  have hb := neq_ino l m hl hm w
  unfold inoV at hb ⊢
  simp only [Sem.run_bind, hg, hb, Result.andThen_ok]
  rfl
/-- An inode lies at block b. -/
def NAt (b : Nat) (l : List Int) (W : World) : Prop := W.heap[b]? = some (.cells (Iy l).toArray 55 (0, 0))
theorem NAt.lt {b : Nat} {l : List Int} {W : World} (h : NAt b l W) : b < W.heap.size := lt_of_block h
theorem NAt.below {b : Nat} {l : List Int} {W W' : World} {B : Nat} (h : NAt b l W) (hB : Below B W W') (hb : b < B) : NAt b l W' := by
  unfold NAt
  rw [hB.block b hb]
  exact h
theorem NAt.only {b : Nat} {l : List Int} {S : Nat → Prop} {W W' : World} (h : NAt b l W) (hB : Only S W W') (hb : ¬ S b) : NAt b l W' := by
  unfold NAt
  rw [hB.block b h.lt hb]
  exact h
theorem NAt.new (w : World) (l : List Int) : NAt w.heap.size l (w.alloc (.cells (Iy l).toArray 55)) := blk_new w _
theorem NAt.cell {b : Nat} {l : List Int} {W : World} (h : NAt b l W) (i : Nat) (hi : i < l.length) : W.cell? ⟨b, i, none⟩ = some (.int .i64 (l.getD i 0)) := by
  rw [blk_cell h]
  simpa using Iy_get l i hi
theorem info24 : (Tryz.prog.info? 55).map (fun i => (i.zero, i.size)) = some (some (inoV (zeros 13)), 13) := by kernel_rfl
theorem info24p : ∃ i0, Tryz.prog.info? 55 = some i0 ∧ i0.zero = some (inoV (zeros 13)) ∧ i0.size = 13 := by
  cases h : Tryz.prog.info? 55 with
  | none => have := info24; rw [h] at this; cases this
  | some i =>
    have h2 := info24
    rw [h] at h2
    simp at h2
    exact ⟨i, rfl, h2.1, h2.2⟩
set_option maxRecDepth 100000 in
theorem load24_run {b : Nat} {l : List Int} {W : World} (hN : NAt b l W) (hl : l.length = 13) : (Instr.loadAt 55 (.pointer (some ⟨b, 0, none⟩))).run Tryz.prog W = .ok (inoV l) W := by
  have h := run_loadCells_list (P := Tryz.prog) W ⟨b, 0, none⟩ (Iy l) (fun j v hj => by
    have hjl := (List.getElem?_eq_some_iff.1 hj).1
    rw [Iy_length] at hjl
    rw [Iy_get l j hjl] at hj
    rw [add_at, Nat.zero_add, hN.cell j hjl]
    exact hj)
  rw [Iy_length, hl] at h
  simp [Instr.loadAt, Instr.sureAddr, loadVar, h, inoV]
set_option maxRecDepth 100000 in
theorem exec_load24 {ev : Operand → Value} {oi : Oper} {x : Operand} {b : Nat} {l : List Int} {W : World} (ho : oi.op = .load 55 x) (hx : ev x = .pointer (some ⟨b, 0, none⟩)) (hN : NAt b l W) (hl : l.length = 13) : (execOp ev oi).run Tryz.prog W = .ok (.value (inoV l)) W := by
  unfold execOp
  rw [ho]
  simp only [hx, Sem.run_bind, load24_run hN hl, Result.andThen_ok]
  rfl
set_option maxRecDepth 100000 in
theorem store24_run {b : Nat} {l m : List Int} {W : World} (hN : NAt b l W) (hl : l.length = 13) (hm : m.length = 13) : ∃ W', (Instr.storeAt 55 (.pointer (some ⟨b, 0, none⟩)) (inoV m)).run Tryz.prog W = .ok () W' ∧ NAt b m W' ∧ Only (fun k => k = b) W W' := by
  have hst := run_storeCells_at Tryz.prog b 0 55 (Iy m) 0 (Iy l).toArray W hN (by simp [Iy_length, hl, hm]) (Iy_one _)
  have e : ((Iy l).toArray.toList.take (0 + 0) ++ Iy m ++ (Iy l).toArray.toList.drop (0 + 0 + (Iy m).length)).toArray = (Iy m).toArray := by
    rw [List.drop_of_length_le (by simp [Iy_length, hl, hm])]
    simp
  rw [e] at hst
  refine ⟨_, ?_, setRow_heap W b _ _ 55 _ hN, (Only.refl (fun k => k = b) W).setRow (.inl rfl) _⟩
  · simp [Instr.storeAt, Instr.sureAddr, storeVar, inoV, Value.cells, Iy_length, hm]
    simpa using hst
set_option maxRecDepth 100000 in
theorem exec_store24 {ev : Operand → Value} {oi : Oper} {p x : Operand} {b : Nat} {l m : List Int} {W : World} (ho : oi.op = .store 55 p x) (hp : ev p = .pointer (some ⟨b, 0, none⟩)) (hx : ev x = inoV m) (hN : NAt b l W) (hl : l.length = 13) (hm : m.length = 13) : ∃ W', (execOp ev oi).run Tryz.prog W = .ok .skip W' ∧ NAt b m W' ∧ Only (fun k => k = b) W W' := by
  obtain ⟨W', h1, h2, h3⟩ := store24_run hN hl hm
  exact ⟨W', exec_store ho hp hx h1, h2, h3⟩
set_option maxRecDepth 100000 in
theorem alloc24_run (W : World) : (Instr.alloc 55 true (.tuple #[])).run Tryz.prog W = .ok (.pointer (some ⟨W.heap.size, 0, none⟩)) (W.alloc (.cells (Iy (zeros 13)).toArray 55)) := by
  obtain ⟨i0, hi, hz0, hz1⟩ := info24p
  simp [Instr.alloc, zeroValue, typeInfo, hi, hz0, newVar, newRow, inoV, Value.cells]
set_option maxRecDepth 100000 in
theorem exec_alloc24 {ev : Operand → Value} {oi : Oper} {W : World} (ho : oi.op = .alloc 55) : (execOp ev oi).run Tryz.prog W = .ok (.value (.pointer (some ⟨W.heap.size, 0, none⟩))) (W.alloc (.cells (Iy (zeros 13)).toArray 55)) := by
  unfold execOp
  rw [ho]
  simp only [Sem.run_bind, alloc24_run, Result.andThen_ok]
  rfl
set_option maxRecDepth 100000 in
theorem exec_box24 {ev : Operand → Value} {oi : Oper} {x : Operand} {l : List Int} {W : World} (ho : oi.op = .box 55 x) (hx : ev x = inoV l) : (execOp ev oi).run Tryz.prog W = .ok (.value (.pointer (some ⟨W.heap.size, 0, none⟩))) (W.alloc (.cells (Iy l).toArray 55)) := by
  unfold execOp
  rw [ho]
  simp only [hx]
  simp [Instr.box, newVar, newRow, inoV, Value.cells]
set_option maxRecDepth 100000 in
theorem exec_build24 {ev : Operand → Value} {oi : Oper} {W : World} (ho : oi.op = .build 55 #[]) : (execOp ev oi).run Tryz.prog W = .ok (.value (inoV (zeros 13))) W := by
  obtain ⟨i0, hi, hz0, hz1⟩ := info24p
  unfold execOp
  rw [ho]
  simp [Instr.build, run_underlying Tryz.underlying55, zeroValue, typeInfo, hi, hz0, inoV, Value.cells, Instr.fill]
set_option maxRecDepth 100000 in
/-- An operation whose outcome is known. -/
theorem wpList_known {P : Program} {w : World} {ops : Array Oper} {rest : List Oper} {o : Oper} {a : Act} {Q : Exit → Act → World → Prop} (hw : Region.wanted o (yielded ops a.tmps) = true) (v : Value) (w' : World)
    (hrun : (execOp a.eval o).run P w = .ok (.value v) w') (h : wpList P ops Q rest (a.put o.dst v) w') : wpList P ops Q (o :: rest) a w := by
  refine BigFrame.wpList_want hw fun K hK => ?_
  unfold Oper.wp
  rw [hrun, Oper.upon_value]
  exact hK _ _ h
set_option maxRecDepth 100000 in
theorem wpList_stored {P : Program} {w : World} {ops : Array Oper} {rest : List Oper} {o : Oper} {a : Act} {Q : Exit → Act → World → Prop} (hw : Region.wanted o (yielded ops a.tmps) = true) (w' : World)
    (hrun : (execOp a.eval o).run P w = .ok .skip w') (h : wpList P ops Q rest (a.put o.dst undef) w') : wpList P ops Q (o :: rest) a w := by
  refine BigFrame.wpList_want hw fun K hK => ?_
  unfold Oper.wp
  rw [hrun, Oper.upon_skip]
  exact hK _ _ h
theorem list13_at (l : List Int) (hl : l.length = 13) (i : Nat) (hi : i < 13) : l.getD i 0 = l[i] := by
  simp [List.getD, List.getElem?_eq_getElem (show i < l.length by omega)]
end Din
end Go.Proofs.YtejnmpnioeamhaaGreat
namespace Go.Proofs.YtejnmpnioeamhaaGreat
open Go Go.Proofs Go.RowKit Go.Shelf
namespace Din
def kindB (k : Int) : Bool := decide (k = 0 ∨ k = 1 ∨ k = 2)
set_option maxRecDepth 100000 in
theorem iskind_any (w : World) (k : Int) : Calls Tryz.prog 69 #[.int .i64 k] w fun e w' => e = .returned (.bool (kindB k)) ∧ w' = w := by
  by_cases h0 : k = 0
  · subst h0
    go_enter Tryz.func69, Tryz.ntmps69
    go_wp2
    go_ret
    exact ⟨rfl, rfl⟩
  · by_cases h1 : k = 1
    · subst h1
      go_enter Tryz.func69, Tryz.ntmps69
      go_wp2
      go_ret
      exact ⟨rfl, rfl⟩
    · by_cases h2 : k = 2
      · subst h2
        go_enter Tryz.func69, Tryz.ntmps69
        go_wp2
        go_ret
        exact ⟨rfl, rfl⟩
      · have e : kindB k = false := by simp [kindB, h0, h1, h2]
        have b0 : (k == 0) = false := by simp [h0]
        have b1 : (k == 1) = false := by simp [h1]
        have b2 : (k == 2) = false := by simp [h2]
        rw [e]
        go_enter Tryz.func69, Tryz.ntmps69
        go_wp2
        go_ret
        exact ⟨rfl, rfl⟩
set_option maxRecDepth 100000 in
/-- append onto a row of ints of one's own. -/
theorem appendi_run (W : World) (B : Nat) (v : Value) (n : Nat) (xs : List Int) (hown : W.ownsRow B 3 1 v n (Iy xs)) (hB : B ≤ W.heap.size) (a : Addr) (m c : Nat) (ys : List Int) (hy : LAt W (some a) m ys) (hn : n + m ≤ 16777216) :
    ∃ v' W', (Builtin.append_ #[31, 31] 31 #[v, .slice (some a) m c]).run Tryz.prog W = .ok v' W' ∧ W'.ownsRow B 3 1 v' (n + m) (Iy (xs ++ ys)) ∧ Below B W W' := by
  obtain ⟨i0, hi, hz0, hz1, hz2⟩ := info3p
  obtain ⟨v3, W3, hr, hown3, hg3, _⟩ := run_append_own (P := Tryz.prog) W B 31 31 3 i0 (.int .i64 0) 1 8 Tryz.underlying31 hi hz0 hz1 hz2 rfl (by decide) v n (Iy xs) hown a m c (Iy ys) (by rw [Iy_length, hy.1, Nat.mul_one]) (fun j u hj => by
    have hjl := (List.getElem?_eq_some_iff.1 hj).1
    rw [Iy_length] at hjl
    rw [Iy_get ys j hjl] at hj
    obtain ⟨a', e, hc⟩ := hy.at j (by rw [← hy.1]; exact hjl)
    cases e
    rw [hc]
    exact hj) (Iy_one _) (by unfold maxLen; omega) (by omega) hB
  have e : Iy xs ++ Iy ys = Iy (xs ++ ys) := by simp [Iy]
  rw [e] at hown3
  exact ⟨v3, W3, hr, hown3, (Below.refl _ W).grown hg3 hB (fun k hk => (hown.lt k hk).1)⟩
set_option maxRecDepth 100000 in
theorem owns_newi (W : World) (B : Nat) (xs : List Int) (hB : B ≤ W.heap.size) (hn : xs.length ≤ 16777216) : (W.alloc (.cells (Iy xs).toArray 3)).ownsRow B 3 1 (.slice (some ⟨W.heap.size, 0, none⟩) xs.length xs.length) xs.length (Iy xs) := by
  refine ⟨by rw [Iy_length, Nat.mul_one], .inr ⟨W.heap.size, xs.length, (Iy xs).toArray, rfl, hB, blk_new W _, Nat.le_refl _, by unfold maxLen; omega, by simp [Iy_length], ?_⟩⟩
  simp [List.take_of_length_le, Iy_length]
theorem lat_newi (W : World) (xs : List Int) : LAt (W.alloc (.cells (Iy xs).toArray 3)) (some ⟨W.heap.size, 0, none⟩) xs.length xs := QAt.lat (blk_new W _) rfl
set_option maxRecDepth 100000 in
theorem owns_LAt {w : World} {base : Nat} {v : Value} {n : Nat} {xs : List Int} (h : w.ownsRow base 3 1 v n (Iy xs)) (hn : 0 < n) : ∃ g c, v = .slice (some ⟨g, 0, none⟩) n c ∧ LAt w (some ⟨g, 0, none⟩) n xs ∧ base ≤ g := by
  obtain ⟨h1, h2⟩ := h
  rw [Iy_length, Nat.mul_one] at h1
  rcases h2 with ⟨rfl, rfl⟩ | ⟨g, cap, cur, rfl, hg, hh, hnc, hm, hsz, ht⟩
  · omega
  · refine ⟨g, cap, rfl, ⟨h1, fun _ => ⟨_, rfl, lt_of_block hh, fun i hi => ?_⟩⟩, hg⟩
    rw [add_at, blk_cell hh, Nat.zero_add]
    have e : cur.toList[i]? = (Iy xs)[i]? := by
      rw [← ht, List.getElem?_take, if_pos (by omega)]
    rw [← Array.getElem?_toList, e]
    exact Iy_get xs i (by omega)
theorem NAt.lat {b : Nat} {l : List Int} {W : World} (h : NAt b l W) (o n : Nat) (hn : o + n ≤ l.length) : LAt W (some ⟨b, o, none⟩) n ((l.drop o).take n) := by
  refine ⟨by simp; omega, fun _ => ⟨_, rfl, h.lt, fun i hi => ?_⟩⟩
  rw [add_at, h.cell (o + i) (by omega)]
  simp [List.getD, hi]
set_option maxRecDepth 100000 in
theorem exec_append {P : Program} {ev : Operand → Value} {oi : Oper} {s x : Operand} {t u : TypeId} {v vx v' : Value} {w w' : World} (ho : oi.op = .call { callee := .builtin .append, args := #[s, x], argTypes := #[t, u] }) (hs : ev s = v) (hx : ev x = vx) (hrun : (Builtin.append_ #[t, u] oi.type #[v, vx]).run P w = .ok v' w') : (execOp ev oi).run P w = .ok (.value v') w' := by
  unfold execOp
  simp only [ho, resolve, invoke, builtin, Sem.run_bind, Sem.run_pure, Result.andThen_ok, List.map_toArray, List.map_cons, List.map_nil, hs, hx, hrun]
theorem words_list (l : List Int) (hl : l.length = 13) : ([l.getD 2 0] ++ (l.drop 3).take 8) ++ [l.getD 11 0, l.getD 12 0] = l.drop 2 := by
  obtain ⟨a0, a1, a2, a3, a4, a5, a6, a7, a8, a9, a10, a11, a12, rfl⟩ := list13 l hl
  rfl
set_option maxRecDepth 100000 in
set_option maxHeartbeats 2000000 in
theorem words_any (w : World) (l : List Int) (hl : l.length = 13) : Calls Tryz.prog 68 #[inoV l] w fun e w' => ∃ v', e = .returned v' ∧ w'.ownsRow w.heap.size 3 1 v' 11 (Iy (l.drop 2)) ∧ Below w.heap.size w w' := by
  obtain ⟨W1, hW1⟩ : ∃ W1, W1 = w.alloc (.cells (Iy l).toArray 55) := ⟨_, rfl⟩
  have hB1 : Below w.heap.size w W1 := by rw [hW1]; exact (Below.refl _ w).alloc (Nat.le_refl _) _
  have hN1 : NAt w.heap.size l W1 := by rw [hW1]; exact NAt.new w l
  obtain ⟨b, hb⟩ : ∃ b, b = w.heap.size := ⟨_, rfl⟩
  rw [← hb] at hN1 hB1 ⊢
  -- the first append
  have hB2 : Below b W1.drew (W1.drew.alloc (.cells (Iy [l.getD 2 0]).toArray 3)) := (Below.refl _ W1.drew).alloc (Nat.le_of_lt hN1.lt) _
  have hN2 : NAt b l (W1.drew.alloc (.cells (Iy [l.getD 2 0]).toArray 3)) := NAt.below (W := W1.drew) hN1 ((Below.refl _ W1.drew).alloc (Nat.le_refl _) _) hN1.lt
  obtain ⟨v3, W3, hr3, ho3, hB3⟩ := appendi_run (W1.drew.alloc (.cells (Iy [l.getD 2 0]).toArray 3)) (b + 1) _ 1 [l.getD 2 0] (owns_newi W1.drew (b + 1) [l.getD 2 0] hN1.lt (by simp)) (by simp; have := hN1.lt; omega) ⟨b, 3, none⟩ 8 8 _ (hN2.lat 3 8 (by omega)) (by omega)
  have hN3 : NAt b l W3 := hN2.below hB3 (by omega)
  have hBw3 : Below b w W3 := (hB1.drew.trans hB2).trans (hB3.mono (by omega))
  -- the second one
  have hN4 : NAt b l (W3.alloc (.cells (Iy [l.getD 11 0, l.getD 12 0]).toArray 3)) := hN3.below ((Below.refl _ W3).alloc (Nat.le_refl _) _) hN3.lt
  obtain ⟨v5, W5, hr5, ho5, hB5⟩ := appendi_run (W3.alloc (.cells (Iy [l.getD 11 0, l.getD 12 0]).toArray 3)) (b + 1) v3 9 _ (ho3.alloc _) (by simp; have := hN3.lt; omega) ⟨W3.heap.size, 0, none⟩ 2 2 _ (lat_newi W3 [l.getD 11 0, l.getD 12 0]) (by omega)
  have hBw5 : Below b w W5 := (hBw3.alloc (Nat.le_of_lt hN3.lt) _).trans (hB5.mono (by omega))
  rw [words_list l hl] at ho5
  have ho5' := owns_base ho5 (show b ≤ b + 1 by omega)
  have HR3 := Hid.mk hr3
  have HR5 := Hid.mk hr5
  have HN1 := Hid.mk hN1
  have HN2 := Hid.mk hN2
  have HN3 := Hid.mk hN3
  have HO := Hid.mk ho5'
  have HB := Hid.mk hBw5
  have HW1 := Hid.mk hW1
  have HBE := Hid.mk hb
  have hc11 := hN3.cell 11 (by omega)
  have hc12 := hN3.cell 12 (by omega)
  have HS2 : Hid (∀ W', NAt b l W' → W'.cell? ⟨b, 2, none⟩ = some (.int .i64 (l.getD 2 0))) := Hid.mk (fun W' h => h.cell 2 (by omega))
  clear hr3 hr5 hN1 hN2 hN3 hN4 ho3 ho5 ho5' hBw3 hBw5 hB1 hB2 hB3 hB5 hW1 hb
  generalize l.getD 2 0 = s2 at *
  generalize l.getD 11 0 = s11 at *
  generalize l.getD 12 0 = s12 at *
  go_enter Tryz.func68, Tryz.ntmps68
  go_wp2_with (refine wpList_known rfl (.pointer (some ⟨b, 0, none⟩)) W1 (by rw [HW1.out, HBE.out]; exact exec_box24 (x := .tmp 0) rfl rfl) ?_)
  refine wp_region_held_drew (S := fun W' => W'.cell? ⟨b, 2, none⟩ = some (.int .i64 s2)) (by kernel_rfl) (HS2.out W1.drew HN1.out) (fun hH => ?_)
  change wpAnyH Tryz.prog Region.Mode.any _ _ _ 7 _ _ _
  refine takeH 0 4 (.pointer (some ⟨b, 2, none⟩)) rfl (by kernel_rfl) (by kernel_rfl) (by kernel_rfl) (by kernel_rfl) (fun _ _ _ h => h) (by kernel_rfl) (fun w hw => by (try dsimp only at hw); go_simp) hH ?_
  simp only [List.setIfInBounds_toArray, List.set_cons_zero, List.set_cons_succ]
  refine takeH 1 5 (.int .i64 s2) rfl (by kernel_rfl) (by kernel_rfl) (by kernel_rfl) (by kernel_rfl) (fun _ _ _ h => h) (by kernel_rfl) (fun w hw => by (try dsimp only at hw); go_simp) hH ?_
  simp only [List.setIfInBounds_toArray, List.set_cons_zero, List.set_cons_succ]
  refine takeH 3 7 (.pointer (some ⟨b, 3, none⟩)) rfl (by kernel_rfl) (by kernel_rfl) (by kernel_rfl) (by kernel_rfl) (fun _ _ _ h => h) (by kernel_rfl) (fun w hw => by (try dsimp only at hw); go_simp) hH ?_
  simp only [List.setIfInBounds_toArray, List.set_cons_zero, List.set_cons_succ]
  refine takeH 4 8 (.slice (some ⟨b, 3, none⟩) 8 8) rfl (by kernel_rfl) (by kernel_rfl) (by kernel_rfl) (by kernel_rfl) (fun _ _ _ h => h) (by kernel_rfl) (fun w hw => by (try dsimp only at hw); go_simp) hH ?_
  simp only [List.setIfInBounds_toArray, List.set_cons_zero, List.set_cons_succ]
  have hH2 := HS2.out _ HN2.out
  refine stepH_run 2 6 (.slice (some ⟨W1.drew.heap.size, 0, none⟩) 1 1) (W1.drew.alloc (.cells (Iy [s2]).toArray 3)) rfl (by kernel_rfl) (by kernel_rfl) (by kernel_rfl) (by kernel_rfl) hH2 ?_
  simp only [List.setIfInBounds_toArray, List.set_cons_zero, List.set_cons_succ]
  have hH3 := HS2.out _ HN3.out
  refine stepH_run 5 9 v3 W3 rfl (by kernel_rfl) (by kernel_rfl) (by kernel_rfl) (exec_append (s := .tmp 6) (x := .tmp 8) rfl (by kernel_rfl) (by kernel_rfl) HR3.out) hH3 ?_
  simp only [List.setIfInBounds_toArray, List.set_cons_zero, List.set_cons_succ]
  refine takeH 6 3 (v3) rfl (by kernel_rfl) (by kernel_rfl) (by kernel_rfl) (by kernel_rfl) (fun _ _ _ h => h) (by kernel_rfl) (fun w hw => by kernel_rfl) hH3 ?_
  simp only [List.setIfInBounds_toArray, List.set_cons_zero, List.set_cons_succ]
  refine wpAnyH_done (by kernel_rfl) ?_ _
  clear hH hH2 hH3 HS2 HR3 HN1 HN2
  go_wp2_with (at_builtin; refine wpList_append_known rfl (.tmp 10) (.tmp 15) 31 rfl v3 (.slice (some ⟨W3.heap.size, 0, none⟩) 2 2) _ _ rfl rfl HR5.out ?_)
  go_ret
  exact ⟨_, rfl, HO.out, HB.out⟩
end Din
end Go.Proofs.YtejnmpnioeamhaaGreat
namespace Go.Proofs.YtejnmpnioeamhaaGreat
open Go Go.Proofs Go.RowKit Go.Shelf
namespace Din
set_option maxRecDepth 100000 in
theorem exec_copy {P : Program} {ev : Operand → Value} {oi : Oper} {d s : Operand} {t u : TypeId} {v vx v' : Value} {w w' : World} (ho : oi.op = .call { callee := .builtin .copy, args := #[d, s], argTypes := #[t, u] }) (hd : ev d = v) (hs : ev s = vx) (hrun : (Builtin.copy_ #[t, u] oi.type #[v, vx]).run P w = .ok v' w') : (execOp ev oi).run P w = .ok (.value v') w' := by
  unfold execOp
  simp only [ho, resolve, invoke, builtin, Sem.run_bind, Sem.run_pure, Result.andThen_ok, List.map_toArray, List.map_cons, List.map_nil, hd, hs, hrun]
set_option maxRecDepth 100000 in
theorem loadCells24 {b : Nat} {l : List Int} {W : World} (hN : NAt b l W) (hl : l.length = 13) : (loadCells ⟨b, 0, none⟩ 13).run Tryz.prog W = .ok (Iy l).toArray W := by
  have h := run_loadCells_list (P := Tryz.prog) W ⟨b, 0, none⟩ (Iy l) (fun j v hj => by
    have hjl := (List.getElem?_eq_some_iff.1 hj).1
    rw [Iy_length] at hjl
    rw [Iy_get l j hjl] at hj
    rw [add_at, Nat.zero_add, hN.cell j hjl]
    exact hj)
  rwa [Iy_length, hl] at h
theorem loadVar24 {b : Nat} {l : List Int} {W : World} (hN : NAt b l W) (hl : l.length = 13) : (loadVar 55 ⟨b, 0, none⟩).run Tryz.prog W = .ok (inoV l) W := by
  simp [loadVar, loadCells24 hN hl, inoV]
set_option maxRecDepth 100000 in
theorem exec_alloc {P : Program} {ev : Operand → Value} {oi : Oper} {t : TypeId} {v : Value} {w w' : World} (ho : oi.op = .alloc t) (h : (Instr.alloc t true (.tuple #[])).run P w = .ok v w') : (execOp ev oi).run P w = .ok (.value v) w' := by
  unfold execOp
  rw [ho]
  simp only [Sem.run_bind, h, Result.andThen_ok]
  rfl
set_option maxRecDepth 100000 in
theorem results_cell1 {f : Func} {tmps : Array Value} {a b : Nat} {l : List Int} {W : World} (hf : f.results = #[.cell a 55]) (ht : tmps.getD a undef = .pointer (some ⟨b, 0, none⟩)) (hN : NAt b l W) (hl : l.length = 13) : (results f tmps).run Tryz.prog W = .ok (inoV l) W := by
  have h := loadVar24 hN hl
  have ht2 : tmps[a]?.getD undef = .pointer (some ⟨b, 0, none⟩) := by rw [← ht]; simp
  unfold results
  rw [hf]
  simp [ht2, asAddr, h]
set_option maxRecDepth 100000 in
theorem results_cell2 {f : Func} {tmps : Array Value} {a c b : Nat} {l : List Int} {W : World} (hf : f.results = #[.cell a 55, .tmp c]) (ht : tmps.getD a undef = .pointer (some ⟨b, 0, none⟩)) (hN : NAt b l W) (hl : l.length = 13) : (results f tmps).run Tryz.prog W = .ok (.tuple #[inoV l, tmps.getD c undef]) W := by
  have h := loadVar24 hN hl
  have ht2 : tmps[a]?.getD undef = .pointer (some ⟨b, 0, none⟩) := by rw [← ht]; simp
  unfold results
  rw [hf]
  simp [ht2, asAddr, h]
set_option maxRecDepth 100000 in
theorem direct_run {b g : Nat} {l ws : List Int} {W : World} (hN : NAt b l W) (hl : l.length = 13) (hq : QAt W g ws) (hw : ws.length = 11) :
    ∃ W', (Builtin.copy_ #[31, 31] 3 #[.slice (some ⟨b, 3, none⟩) 8 8, .slice (some ⟨g, 1, none⟩) 10 10]).run Tryz.prog W = .ok (.int .i64 8) W' ∧ NAt b (l.take 3 ++ (ws.drop 1).take 8 ++ l.drop 11) W' ∧ Only (fun k => k = b) W W' := by
  obtain ⟨i0, hi, hz0, hz1, hz2⟩ := info3p
  have hcl : (Iy ((ws.drop 1).take 8)).length = min 10 8 := by rw [Iy_length]; simp; omega
  have hr := run_copy_row (P := Tryz.prog) W 31 31 3 3 b 3 8 8 ⟨g, 1, none⟩ 10 10 (Iy l).toArray 55 (Iy ((ws.drop 1).take 8)) Tryz.underlying31 (by rw [hi]; simp [hz1]) hN hcl (fun j u hj => by
    have hjl := (List.getElem?_eq_some_iff.1 hj).1
    rw [Iy_length] at hjl
    rw [Iy_get _ j hjl] at hj
    have hj2 : j < 8 := by simp at hjl; omega
    rw [add_at, blk_cell hq]
    have e := Iy_get ws (1 + j) (by omega)
    rw [show (Iy ws).toArray[1 + j]? = (Iy ws)[1 + j]? by simp, e]
    rw [← hj]
    simp [List.getD, hj2, Nat.add_comm]) (by rw [hcl]; simp [Iy_length]; omega) (Iy_one _)
  have e : (Iy (l.take 3 ++ (ws.drop 1).take 8 ++ l.drop 11)).toArray = ((Iy l).toArray.toList.take 3 ++ Iy ((ws.drop 1).take 8) ++ (Iy l).toArray.toList.drop (3 + (Iy ((ws.drop 1).take 8)).length)).toArray := by
    rw [hcl]
    simp [Iy, List.map_take, List.map_drop]
  refine ⟨W.setRow b (Iy (l.take 3 ++ (ws.drop 1).take 8 ++ l.drop 11)).toArray, hr.trans ?_, setRow_heap W b _ _ 55 _ hN, (Only.refl (fun k => k = b) W).setRow (.inl rfl) _⟩
  rw [e, hcl]
  rfl
end Din
end Go.Proofs.YtejnmpnioeamhaaGreat
namespace Go.Proofs.YtejnmpnioeamhaaGreat
open Go Go.Proofs Go.RowKit Go.Shelf
namespace Din
/-- The two numbers of two bytes. -/
def halfL (l : List Int) : List Int := [l.getD 0 0, l.getD 1 0]
/-- May an inode be? -/
def fineL (l : List Int) : Bool := kindB (l.getD 0 0) && (fitL 65535 (halfL l) && (fitL 4294967295 (l.drop 2) && (!decide (l.getD 0 0 = 0) || eqB l (zeros 13))))
/-- The bytes of an inode. -/
def inoL (l : List Int) : List Int := leLs 2 (halfL l) ++ leLs 4 (l.drop 2) ++ zeros 16
theorem inoL_length (l : List Int) (hl : l.length = 13) : (inoL l).length = 64 := by
  simp [inoL, leLs_length, halfL, zeros_length, hl]
theorem inoL_bound (l : List Int) : ∀ x ∈ inoL l, 0 ≤ x ∧ x ≤ 255 := by
  intro x hx
  simp only [inoL, List.mem_append] at hx
  rcases hx with (hx | hx) | hx
  · exact leLs_bound _ _ x hx
  · exact leLs_bound _ _ x hx
  · exact zeros_bound _ x hx
set_option maxRecDepth 100000 in
theorem ino_put (l : List Int) (hl : l.length = 13) : splice (splice (zeros 64) 0 (leLs 2 (halfL l))) 4 (leLs 4 (l.drop 2)) = inoL l := by
  have h1 := splice_zero 64 [] (leLs 2 (halfL l)) 0 rfl (by simp [leLs_length, halfL])
  simp only [List.nil_append, Nat.sub_zero] at h1
  rw [h1]
  have e4 : 0 + (leLs 2 (halfL l)).length = 4 := by simp [leLs_length, halfL]
  have e44 : (leLs 4 (l.drop 2)).length = 44 := by simp [leLs_length, hl]
  rw [e4, splice_zero 64 (leLs 2 (halfL l)) (leLs 4 (l.drop 2)) 4 (by omega) (by omega), e44]
  rfl
/-- The inode of bytes. -/
def ofB (xs : List Int) : List Int := allL 2 (xs.take 4) ++ allL 4 ((xs.drop 4).take 44)
theorem ofB_length (xs : List Int) (h : xs.length = 64) : (ofB xs).length = 13 := by
  simp [ofB, allL_length, h]
/-- Are bytes those of an inode? -/
def rdB (xs : List Int) : Bool := decide (xs.length = 64) && (fineL (ofB xs) && eqB xs (inoL (ofB xs)))
def rdL (xs : List Int) : List Int := if rdB xs = true then ofB xs else zeros 13
def rdE (xs : List Int) : Int := if rdB xs = true then 0 else 5
theorem rd_yes {xs : List Int} (h : rdB xs = true) : rdL xs = ofB xs ∧ rdE xs = 0 := ⟨if_pos h, if_pos h⟩
theorem rd_no {xs : List Int} (h : rdB xs = false) : rdL xs = zeros 13 ∧ rdE xs = 5 := ⟨if_neg (by simp [h]), if_neg (by simp [h])⟩
theorem rdB_len {xs : List Int} (h : rdB xs = true) : xs.length = 64 := by
  unfold rdB at h
  simp only [Bool.and_eq_true, decide_eq_true_eq] at h
  exact h.1
theorem rdL_length (xs : List Int) : (rdL xs).length = 13 := by
  cases h : rdB xs with
  | false => rw [(rd_no h).1]; exact zeros_length 13
  | true => rw [(rd_yes h).1]; exact ofB_length xs (rdB_len h)
theorem numL_leL (n : Int) (h0 : 0 ≤ n) (h1 : n < 4294967296) : numL (leL n 4) = n := by
  have e : leL n 4 = [n % 256, n / 256 % 256, n / 65536 % 256, n / 16777216 % 256] := by
    simp [leL, List.range_succ]
  rw [e]
  simp only [numL]
  omega
theorem numL_leL2 (n : Int) (h0 : 0 ≤ n) (h1 : n < 65536) : numL (leL n 2) = n := by
  have e : leL n 2 = [n % 256, n / 256 % 256] := by
    simp [leL, List.range_succ]
  rw [e]
  simp only [numL]
  omega
theorem leLs_cons (K : Nat) (x : Int) (r : List Int) : leLs K (x :: r) = leL x K ++ leLs K r := by simp [leLs]
set_option maxRecDepth 100000 in
theorem leLs_at (K : Nat) (xs : List Int) (i : Nat) (hi : i < xs.length) : ((leLs K xs).drop (K * i)).take K = leL (xs.getD i 0) K := by
  induction xs generalizing i with
  | nil => simp at hi
  | cons x r ih =>
    rw [leLs_cons]
    cases i with
    | zero =>
      rw [Nat.mul_zero, List.drop_zero, List.take_left' (leL_length _ _)]
      rfl
    | succ i =>
      rw [Nat.mul_succ, Nat.add_comm, ← List.drop_drop, List.drop_left' (leL_length _ _), ih i (by simpa using hi)]
      rfl
set_option maxRecDepth 100000 in
theorem allL_leLs (K : Nat) (hK : 0 < K) (xs : List Int) (h : ∀ x ∈ xs, numL (leL x K) = x) : allL K (leLs K xs) = xs := by
  have e : (leLs K xs).length / K = xs.length := by rw [leLs_length, Nat.mul_div_cancel_left _ hK]
  refine List.ext_getElem (by rw [allL_length, e]) (fun i h1 h2 => ?_)
  have hi : i < (leLs K xs).length / K := by rw [e]; exact h2
  have h3 := allL_get K (leLs K xs) i hi
  rw [leLs_at K xs i h2] at h3
  have e4 : (allL K (leLs K xs)).getD i 0 = (allL K (leLs K xs))[i] := by simp [List.getD, List.getElem?_eq_getElem h1]
  have e5 : xs.getD i 0 = xs[i] := by simp [List.getD, List.getElem?_eq_getElem h2]
  rw [e4, e5, h _ (List.getElem_mem h2)] at h3
  exact h3
theorem half_drop (l : List Int) (hl : l.length = 13) : halfL l ++ l.drop 2 = l := by
  obtain ⟨a0, a1, a2, a3, a4, a5, a6, a7, a8, a9, a10, a11, a12, rfl⟩ := list13 l hl
  rfl
theorem fine_parts {l : List Int} (h : fineL l = true) : kindB (l.getD 0 0) = true ∧ (∀ x ∈ halfL l, 0 ≤ x ∧ x ≤ 65535) ∧ (∀ x ∈ l.drop 2, 0 ≤ x ∧ x ≤ 4294967295) := by
  unfold fineL at h
  simp only [Bool.and_eq_true] at h
  exact ⟨h.1, fitL_iff.1 h.2.1, fitL_iff.1 h.2.2.1⟩
set_option maxRecDepth 100000 in
theorem ofB_inoL (l : List Int) (hl : l.length = 13) (hf : fineL l = true) : ofB (inoL l) = l := by
  obtain ⟨-, h1, h2⟩ := fine_parts hf
  have e4 : (leLs 2 (halfL l)).length = 4 := by simp [leLs_length, halfL]
  have e44 : (leLs 4 (l.drop 2)).length = 44 := by simp [leLs_length, hl]
  unfold ofB inoL
  rw [List.append_assoc, List.take_left' e4, List.drop_left' e4, List.take_left' e44, allL_leLs 2 (by omega) _ (fun x hx => numL_leL2 x (h1 x hx).1 (by have := (h1 x hx).2; omega)), allL_leLs 4 (by omega) _ (fun x hx => numL_leL x (h2 x hx).1 (by have := (h2 x hx).2; omega))]
  exact half_drop l hl
set_option maxRecDepth 100000 in
theorem ino_reads {l : List Int} (hl : l.length = 13) (hf : fineL l = true) : rdB (inoL l) = true ∧ rdL (inoL l) = l ∧ rdE (inoL l) = 0 := by
  have h : rdB (inoL l) = true := by
    unfold rdB
    rw [ofB_inoL l hl hf, hf, inoL_length l hl]
    simp [eqB]
  refine ⟨h, ?_, (rd_yes h).2⟩
  rw [(rd_yes h).1, ofB_inoL l hl hf]
end Din
end Go.Proofs.YtejnmpnioeamhaaGreat
namespace Go.Proofs.YtejnmpnioeamhaaGreat
open Go Go.Proofs Go.RowKit Go.Shelf
namespace Din
set_option maxRecDepth 100000 in
theorem _root_.Go.Proofs.YtejnmpnioeamhaaGreat.LAt.below {B : Nat} {W W' : World} {g n : Nat} {xs : List Int} (h : LAt W (some ⟨g, 0, none⟩) n xs) (hb : Below B W W') (hg : g < B) : LAt W' (some ⟨g, 0, none⟩) n xs := by
  refine ⟨h.1, fun hn => ?_⟩
  obtain ⟨a, e, hlt, hc⟩ := h.2 hn
  cases e
  refine ⟨_, rfl, Nat.lt_of_lt_of_le hlt hb.size, fun i hi => ?_⟩
  rw [World.cell?_of_block (w := W) (by rw [add_block]; exact hb.block _ hg)]
  exact hc i hi
theorem _root_.Go.Proofs.YtejnmpnioeamhaaGreat.LAt.lt {W : World} {g n : Nat} {xs : List Int} (h : LAt W (some ⟨g, 0, none⟩) n xs) (hn : 0 < n) : g < W.heap.size := by
  obtain ⟨a, e, hlt, hc⟩ := h.2 hn
  cases e
  exact hlt
/-- What Pack holds in memory: the inode, its numbers in two rows. -/
structure PkAt (w : World) (b gh gw : Nat) (l : List Int) (W : World) : Prop where
  ino : NAt b l W
  half : LAt W (some ⟨gh, 0, none⟩) 2 (halfL l)
  word : LAt W (some ⟨gw, 0, none⟩) 11 (l.drop 2)
  below : Below b w W
  gh : b < gh
  gw : b < gw
set_option maxRecDepth 100000 in
theorem PkAt.then {w W W' : World} {b gh gw : Nat} {l : List Int} (h : PkAt w b gh gw l W) (hb : Below W.heap.size W W') : PkAt w b gh gw l W' :=
  ⟨h.ino.below hb h.ino.lt, h.half.below hb (h.half.lt (by omega)), h.word.below hb (h.word.lt (by omega)), h.below.trans (hb.mono (Nat.le_of_lt h.ino.lt)), h.gh, h.gw⟩
theorem PkAt.drew {w W : World} {b gh gw : Nat} {l : List Int} (h : PkAt w b gh gw l W) : PkAt w b gh gw l W.drew := ⟨h.ino, h.half, h.word, h.below.drew, h.gh, h.gw⟩
set_option maxRecDepth 100000 in
theorem PkAt.put {w W W' : World} {b gh gw g : Nat} {l : List Int} (h : PkAt w b gh gw l W) (ho : Only (fun k => k = g) W W') (h1 : gh < g) (h2 : gw < g) : PkAt w b gh gw l W' :=
  ⟨h.ino.only ho (by have := h.gh; omega), h.half.only ho (fun a e _ => by cases e; exact fun e => by simp at e; omega), h.word.only ho (fun a e _ => by cases e; exact fun e => by simp at e; omega), h.below.trans (ho.below (Nat.le_of_lt h.ino.lt) (fun k e => by rw [e]; have := h.gh; omega)), h.gh, h.gw⟩
set_option maxRecDepth 100000 in
theorem exec_neq_is {ev : Operand → Value} {oi : Oper} {x y : Operand} {u : TypeId} {l m : List Int} {w : World} (c : Bool) (hc : eqB l m = c) (ho : oi.op = .binOp .neq 55 x y u) (hx : ev x = inoV l) (hy : ev y = inoV m) (hl : l.length = 13) (hm : m.length = 13) : (execOp ev oi).run Tryz.prog w = .ok (.value (.bool (!c))) w := by
  subst hc
  exact exec_neq ho hx hy hl hm
set_option maxRecDepth 100000 in
theorem exec_eql_is {ev : Operand → Value} {oi : Oper} {x y : Operand} {u : TypeId} {l m : List Int} {w : World} (c : Bool) (hc : eqB l m = c) (ho : oi.op = .binOp .eql 55 x y u) (hx : ev x = inoV l) (hy : ev y = inoV m) (hl : l.length = 13) (hm : m.length = 13) : (execOp ev oi).run Tryz.prog w = .ok (.value (.bool c)) w := by
  subst hc
  exact exec_eql ho hx hy hl hm
/-! One operation each, its form asked for first. -/
section
variable {w : World} {ops : Array Oper} {rest : List Oper} {o : Oper} {a : Act} {Q : Exit → Act → World → Prop}
set_option maxRecDepth 100000 in
theorem wpL_load (x : Operand) (ho : o.op = .load 55 x) (hw : Region.wanted o (yielded ops a.tmps) = true) (b : Nat) (l : List Int) (hx : a.eval x = .pointer (some ⟨b, 0, none⟩)) (hN : NAt b l w) (hl : l.length = 13) (h : wpList Tryz.prog ops Q rest (a.put o.dst (inoV l)) w) : wpList Tryz.prog ops Q (o :: rest) a w :=
  wpList_known hw _ _ (exec_load24 ho hx hN hl) h
set_option maxRecDepth 100000 in
theorem wpL_store (p x : Operand) (ho : o.op = .store 55 p x) (hw : Region.wanted o (yielded ops a.tmps) = true) (v u : Value) (w' : World) (hp : a.eval p = v) (hx : a.eval x = u) (hr : (Instr.storeAt 55 v u).run Tryz.prog w = .ok () w') (h : wpList Tryz.prog ops Q rest (a.put o.dst undef) w') : wpList Tryz.prog ops Q (o :: rest) a w :=
  wpList_stored hw _ (exec_store ho hp hx hr) h
theorem wpL_build (ho : o.op = .build 55 #[]) (hw : Region.wanted o (yielded ops a.tmps) = true) (h : wpList Tryz.prog ops Q rest (a.put o.dst (inoV (zeros 13))) w) : wpList Tryz.prog ops Q (o :: rest) a w :=
  wpList_known hw _ _ (exec_build24 ho) h
set_option maxRecDepth 100000 in
theorem wpL_alloc (ho : o.op = .alloc 55) (hw : Region.wanted o (yielded ops a.tmps) = true) (v : Value) (w' : World) (hr : (Instr.alloc 55 true (.tuple #[])).run Tryz.prog w = .ok v w') (h : wpList Tryz.prog ops Q rest (a.put o.dst v) w') : wpList Tryz.prog ops Q (o :: rest) a w :=
  wpList_known hw _ _ (exec_alloc ho hr) h
set_option maxRecDepth 100000 in
theorem wpL_neq (x y : Operand) (u : TypeId) (ho : o.op = .binOp .neq 55 x y u) (hw : Region.wanted o (yielded ops a.tmps) = true) (l m : List Int) (c : Bool) (hc : eqB l m = c) (hx : a.eval x = inoV l) (hy : a.eval y = inoV m) (hl : l.length = 13) (hm : m.length = 13) (h : wpList Tryz.prog ops Q rest (a.put o.dst (.bool (!c))) w) : wpList Tryz.prog ops Q (o :: rest) a w :=
  wpList_known hw _ _ (exec_neq_is c hc ho hx hy hl hm) h
set_option maxRecDepth 100000 in
theorem wpL_eql (x y : Operand) (u : TypeId) (ho : o.op = .binOp .eql 55 x y u) (hw : Region.wanted o (yielded ops a.tmps) = true) (l m : List Int) (c : Bool) (hc : eqB l m = c) (hx : a.eval x = inoV l) (hy : a.eval y = inoV m) (hl : l.length = 13) (hm : m.length = 13) (h : wpList Tryz.prog ops Q rest (a.put o.dst (.bool c)) w) : wpList Tryz.prog ops Q (o :: rest) a w :=
  wpList_known hw _ _ (exec_eql_is c hc ho hx hy hl hm) h
set_option maxRecDepth 100000 in
theorem wpL_box (x : Operand) (ho : o.op = .box 55 x) (hw : Region.wanted o (yielded ops a.tmps) = true) (l : List Int) (hx : a.eval x = inoV l) (h : wpList Tryz.prog ops Q rest (a.put o.dst (.pointer (some ⟨w.heap.size, 0, none⟩))) (w.alloc (.cells (Iy l).toArray 55))) : wpList Tryz.prog ops Q (o :: rest) a w :=
  wpList_known hw _ _ (exec_box24 ho hx) h
end
set_option maxRecDepth 100000 in
set_option maxHeartbeats 4000000 in
theorem pack_any (w : World) (l : List Int) (hl : l.length = 13) : Calls Tryz.prog 32 #[inoV l] w fun e w' => Below w.heap.size w w' ∧ ((fineL l = false ∧ e = .returned (.tuple #[.slice none 0 0, .int .i64 1])) ∨
    (fineL l = true ∧ ∃ g, e = .returned (.tuple #[.slice (some ⟨g, 0, none⟩) 64 64, .int .i64 0]) ∧ RAt w' g (inoL l) ∧ w.heap.size ≤ g)) := by
  obtain ⟨W1, hW1⟩ : ∃ W1, W1 = w.alloc (.cells (Iy l).toArray 55) := ⟨_, rfl⟩
  have hB1 : Below w.heap.size w W1 := by rw [hW1]; exact (Below.refl _ w).alloc (Nat.le_refl _) _
  have hN1 : NAt w.heap.size l W1 := by rw [hW1]; exact NAt.new w l
  obtain ⟨b, hb⟩ : ∃ b, b = w.heap.size := ⟨_, rfl⟩
  rw [← hb] at hN1 hB1 ⊢
  have HW1 := Hid.mk hW1
  have HBE := Hid.mk hb
  clear hW1 hb
  have HN1 := Hid.mk hN1
  have HB1 := Hid.mk hB1
  have HC : Hid (∀ W', NAt b l W' → W'.cell? ⟨b, 0, none⟩ = some (.int .i64 (l.getD 0 0)) ∧ W'.cell? ⟨b, 1, none⟩ = some (.int .i64 (l.getD 1 0))) := Hid.mk (fun W' h => ⟨h.cell 0 (by omega), h.cell 1 (by omega)⟩)
  -- what the region leaves, in either order
  have HF1 : Hid (∀ (W2 W3 : World) (v : Value), W2 = W1.drew.alloc (.cells (Iy (halfL l)).toArray 3) → W3.ownsRow W2.heap.size 3 1 v 11 (Iy (l.drop 2)) → Below W2.heap.size W2 W3 → ∃ gw c, v = .slice (some ⟨gw, 0, none⟩) 11 c ∧ PkAt w b W1.drew.heap.size gw l W3) := Hid.mk (fun W2 W3 v h2 ho hB => by
    obtain ⟨g, c, rfl, hla, hge⟩ := owns_LAt ho (by omega)
    have hq : QAt W2 W1.drew.heap.size (halfL l) := by rw [h2]; exact blk_new _ _
    have hb2 : Below b W1.drew W2 := by rw [h2]; exact (Below.refl _ W1.drew).alloc (Nat.le_of_lt hN1.lt) _
    have hn2 : NAt b l W2 := by rw [h2]; exact NAt.below (W := W1.drew) hN1 ((Below.refl _ W1.drew).alloc (Nat.le_refl _) _) hN1.lt
    have := hn2.lt
    exact ⟨g, c, rfl, hn2.below hB hn2.lt, (hq.below hB hq.lt).lat rfl, hla, (hB1.drew.trans hb2).trans (hB.mono (by omega)), hN1.lt, by omega⟩)
  have HF2 : Hid (∀ (W3 : World) (v : Value), W3.ownsRow W1.drew.heap.size 3 1 v 11 (Iy (l.drop 2)) → Below W1.drew.heap.size W1.drew W3 → ∃ gw c, v = .slice (some ⟨gw, 0, none⟩) 11 c ∧ PkAt w b W3.heap.size gw l (W3.alloc (.cells (Iy (halfL l)).toArray 3))) := Hid.mk (fun W3 v ho hB => by
    obtain ⟨g, c, rfl, hla, hge⟩ := owns_LAt ho (by omega)
    have hn3 : NAt b l W3 := NAt.below (W := W1.drew) hN1 hB hN1.lt
    have hbn : Below W3.heap.size W3 (W3.alloc (.cells (Iy (halfL l)).toArray 3)) := (Below.refl _ W3).alloc (Nat.le_refl _) _
    have hq : QAt (W3.alloc (.cells (Iy (halfL l)).toArray 3)) W3.heap.size (halfL l) := blk_new _ _
    have h1 : b < W1.drew.heap.size := hN1.lt
    exact ⟨g, c, rfl, hn3.below hbn hn3.lt, hq.lat rfl, hla.below hbn (hla.lt (by omega)), (hB1.drew.trans (hB.mono (Nat.le_of_lt h1))).trans (hbn.mono (Nat.le_of_lt hn3.lt)), hn3.lt, by omega⟩)
  clear hN1 hB1
  obtain ⟨K, hK⟩ : ∃ K, K = l.getD 0 0 := ⟨_, rfl⟩
  obtain ⟨L, hL⟩ : ∃ L, L = l.getD 1 0 := ⟨_, rfl⟩
  rw [← hK, ← hL] at HC
  have HH : Hid (halfL l = [K, L]) := Hid.mk (by rw [hK, hL]; rfl)
  rw [HH.out] at HF1 HF2
  have hS1 := HC.out W1.drew HN1.out
  go_enter Tryz.func32, Tryz.ntmps32
  go_upto_region 1 with (refine wpList_known rfl (.pointer (some ⟨b, 0, none⟩)) W1 (by rw [HW1.out, HBE.out]; exact exec_box24 (x := .tmp 0) rfl rfl) ?_)
  go_cut [4, 5] from 7 to 13 (fun h v wx => ∃ gh gw c, h = .slice (some ⟨gh, 0, none⟩) 2 2 ∧ v = .slice (some ⟨gw, 0, none⟩) 11 c ∧ PkAt w b gh gw l wx)
  case first =>
    refine wp_region_held_drew (S := NAt b l) (by kernel_rfl) HN1.out (fun hH => ?_)
    change wpAnyH Tryz.prog Region.Mode.any _ _ _ 9 _ _ _
    refine takeH 0 7 (.pointer (some ⟨b, 0, none⟩)) rfl (by kernel_rfl) (by kernel_rfl) (by kernel_rfl) (by kernel_rfl) (fun _ _ _ h => h) (by kernel_rfl) (fun w hw => by (try dsimp only at hw); go_simp) hH ?_
    simp only [List.setIfInBounds_toArray, List.set_cons_zero, List.set_cons_succ]
    refine takeH 1 8 (.int .i64 K) rfl (by kernel_rfl) (by kernel_rfl) (by kernel_rfl) (by kernel_rfl) (fun _ _ _ h => h) (by kernel_rfl) (fun w hw => by (have h := HC.out _ hw; go_simp)) hH ?_
    simp only [List.setIfInBounds_toArray, List.set_cons_zero, List.set_cons_succ]
    refine takeH 2 9 (.pointer (some ⟨b, 1, none⟩)) rfl (by kernel_rfl) (by kernel_rfl) (by kernel_rfl) (by kernel_rfl) (fun _ _ _ h => h) (by kernel_rfl) (fun w hw => by (try dsimp only at hw); go_simp) hH ?_
    simp only [List.setIfInBounds_toArray, List.set_cons_zero, List.set_cons_succ]
    refine takeH 3 10 (.int .i64 L) rfl (by kernel_rfl) (by kernel_rfl) (by kernel_rfl) (by kernel_rfl) (fun _ _ _ h => h) (by kernel_rfl) (fun w hw => by (have h := HC.out _ hw; go_simp)) hH ?_
    simp only [List.setIfInBounds_toArray, List.set_cons_zero, List.set_cons_succ]
    refine takeH 5 12 (inoV l) rfl (by kernel_rfl) (by kernel_rfl) (by kernel_rfl) (by kernel_rfl) (fun _ _ _ h => h) (by kernel_rfl) (fun w hw => by exact exec_load24 (x := .tmp 1) rfl (by kernel_rfl) hw hl) hH ?_
    simp only [List.setIfInBounds_toArray, List.set_cons_zero, List.set_cons_succ]
    have hH2 : NAt b l (W1.drew.alloc (.cells (Iy [K, L]).toArray 3)) := NAt.below (W := W1.drew) HN1.out ((Below.refl _ W1.drew).alloc (Nat.le_refl _) _) HN1.out.lt
    refine stepH_two 4 6 (by kernel_rfl) ?_ ?_
    · refine opH_run 4 11 (.slice (some ⟨W1.drew.heap.size, 0, none⟩) 2 2) (W1.drew.alloc (.cells (Iy [K, L]).toArray 3)) rfl (by kernel_rfl) (by kernel_rfl) (by kernel_rfl) hH2 ?_
      simp only [List.setIfInBounds_toArray, List.set_cons_zero, List.set_cons_succ]
      refine stepH_call 6 13 rfl (by kernel_rfl) (by kernel_rfl) (by kernel_rfl) 68 #[.tmp 12] #[55] (by kernel_rfl) (enters_of Tryz.func68 (by kernel_rfl) rfl) #[inoV l] (by kernel_rfl) (words_any _ l hl) ?_
      rintro e W3 ⟨v3, rfl, ho3, hB3⟩
      obtain ⟨gw, c, rfl, hP⟩ := HF1.out _ W3 v3 rfl ho3 hB3
      have HP := Hid.mk hP
      clear ho3 hB3 hP
      have hH3 := HP.out.ino
      refine ⟨_, rfl, hH3, ?_⟩
      simp only [List.setIfInBounds_toArray, List.set_cons_zero, List.set_cons_succ]
      refine takeH 7 4 (.slice (some ⟨W1.drew.heap.size, 0, none⟩) 2 2) rfl (by kernel_rfl) (by kernel_rfl) (by kernel_rfl) (by kernel_rfl) (fun _ _ _ h => h) (by kernel_rfl) (fun w hw => by kernel_rfl) hH3 ?_
      simp only [List.setIfInBounds_toArray, List.set_cons_zero, List.set_cons_succ]
      refine takeH 8 5 (.slice (some ⟨gw, 0, none⟩) 11 c) rfl (by kernel_rfl) (by kernel_rfl) (by kernel_rfl) (by kernel_rfl) (fun _ _ _ h => h) (by kernel_rfl) (fun w hw => by kernel_rfl) hH3 ?_
      simp only [List.setIfInBounds_toArray, List.set_cons_zero, List.set_cons_succ]
      refine wpAnyH_done (by kernel_rfl) ?_ _
      clear hH hH2 hH3
      go_wp2_with fail
      go_meet
      case rel => exact ⟨_, gw, c, rfl, rfl, HP.out⟩
    · refine opH_call 6 13 rfl (by kernel_rfl) (by kernel_rfl) 68 #[.tmp 12] #[55] (by kernel_rfl) (enters_of Tryz.func68 (by kernel_rfl) rfl) #[inoV l] (by kernel_rfl) (words_any _ l hl) ?_
      rintro e W3 ⟨v3, rfl, ho3, hB3⟩
      obtain ⟨gw, c, rfl, hP⟩ := HF2.out W3 v3 ho3 hB3
      have HP := Hid.mk hP
      have hH3 : NAt b l W3 := NAt.below (W := W1.drew) HN1.out hB3 HN1.out.lt
      clear ho3 hB3 hP
      refine ⟨_, rfl, hH3, ?_⟩
      simp only [List.setIfInBounds_toArray, List.set_cons_zero, List.set_cons_succ]
      refine stepH_run 4 11 (.slice (some ⟨W3.heap.size, 0, none⟩) 2 2) (W3.alloc (.cells (Iy [K, L]).toArray 3)) rfl (by kernel_rfl) (by kernel_rfl) (by kernel_rfl) (by kernel_rfl) HP.out.ino ?_
      simp only [List.setIfInBounds_toArray, List.set_cons_zero, List.set_cons_succ]
      refine takeH 7 4 (.slice (some ⟨W3.heap.size, 0, none⟩) 2 2) rfl (by kernel_rfl) (by kernel_rfl) (by kernel_rfl) (by kernel_rfl) (fun _ _ _ h => h) (by kernel_rfl) (fun w hw => by kernel_rfl) HP.out.ino ?_
      simp only [List.setIfInBounds_toArray, List.set_cons_zero, List.set_cons_succ]
      refine takeH 8 5 (.slice (some ⟨gw, 0, none⟩) 11 c) rfl (by kernel_rfl) (by kernel_rfl) (by kernel_rfl) (by kernel_rfl) (fun _ _ _ h => h) (by kernel_rfl) (fun w hw => by kernel_rfl) HP.out.ino ?_
      simp only [List.setIfInBounds_toArray, List.set_cons_zero, List.set_cons_succ]
      refine wpAnyH_done (by kernel_rfl) ?_ _
      clear hH hH2 hH3
      go_wp2_with fail
      go_meet
      case rel => exact ⟨_, gw, c, rfl, rfl, HP.out⟩
  case rest =>
    obtain ⟨gh, gw, c, rfl, rfl, hP⟩ := hcut
    have HP := Hid.mk hP
    have hc0 := (HC.out wc hP.ino).1
    have HFE : Hid (fineL l = (kindB K && (fitL 65535 [K, L] && (fitL 4294967295 (l.drop 2) && (!decide (K = 0) || eqB l (zeros 13)))))) := Hid.mk (by unfold fineL; rw [HH.out, ← hK])
    have HLA : Hid (LAt wc (some ⟨gh, 0, none⟩) 2 [K, L]) := Hid.mk (by have h := hP.half; rwa [HH.out] at h)
    have HLB : Hid (LAt wc (some ⟨gw, 0, none⟩) 11 (l.drop 2)) := Hid.mk hP.word
    clear HF1 HF2 hS1 hP HN1 HB1 hK hL HC HW1
    cases h1 : kindB K with
    | false =>
      have HD := Hid.mk (show fineL l = false by rw [HFE.out, h1]; rfl)
      have H1 := Hid.mk h1
      clear h1 HFE
      go_wp2_with (go_at_call 69; refine (iskind_any _ _).mono ?_; rintro e w' ⟨rfl, hw⟩; subst w'; rw [H1.out])
      go_ret2
      exact ⟨HP.out.below, .inl ⟨HD.out, rfl⟩⟩
    | true =>
      have H1 := Hid.mk h1
      clear h1
      cases h2 : fitL 65535 [K, L] with
      | false =>
        have HD := Hid.mk (show fineL l = false by rw [HFE.out, H1.out, h2]; rfl)
        have H2 := Hid.mk h2
        clear h2 HFE
        go_wp2_with (first
          | (go_at_call 69; refine (iskind_any _ _).mono ?_; rintro e w' ⟨rfl, hw⟩; subst w'; rw [H1.out])
          | (go_at_call 70; refine (fits16_any _ _ 2 2 _ HLA.out (by omega)).mono ?_; rintro e w' ⟨rfl, hw⟩; subst w'; rw [H2.out]))
        go_ret2
        exact ⟨HP.out.below, .inl ⟨HD.out, rfl⟩⟩
      | true =>
        have H2 := Hid.mk h2
        clear h2
        cases h3 : fitL 4294967295 (l.drop 2) with
        | false =>
          have HD := Hid.mk (show fineL l = false by rw [HFE.out, H1.out, H2.out, h3]; rfl)
          have H3 := Hid.mk h3
          clear h3 HFE
          go_wp2_with (first
            | (go_at_call 69; refine (iskind_any _ _).mono ?_; rintro e w' ⟨rfl, hw⟩; subst w'; rw [H1.out])
            | (go_at_call 70; refine (fits16_any _ _ 2 2 _ HLA.out (by omega)).mono ?_; rintro e w' ⟨rfl, hw⟩; subst w'; rw [H2.out])
            | (go_at_call 71; refine (fits32_any _ _ 11 c _ HLB.out (by omega)).mono ?_; rintro e w' ⟨rfl, hw⟩; subst w'; rw [H3.out]))
          go_ret2
          exact ⟨HP.out.below, .inl ⟨HD.out, rfl⟩⟩
        | true =>
          have H3 := Hid.mk h3
          clear h3
          -- the row that is made
          obtain ⟨g, hg⟩ : ∃ g, g = wc.heap.size := ⟨_, rfl⟩
          obtain ⟨W2, hW2⟩ : ∃ W2, W2 = wc.alloc (.cells (By (zeros 64)).toArray 5) := ⟨_, rfl⟩
          have hMK := make_run wc 64 (by omega)
          rw [← hg] at hMK
          change _ = Result.ok _ (wc.alloc (.cells (By (zeros 64)).toArray 5)) at hMK
          rw [← hW2] at hMK
          have hP2 : PkAt w b gh gw l W2 := by rw [hW2]; exact HP.out.then ((Below.refl _ wc).alloc (Nat.le_refl _) _)
          have hR2 : RAt W2 g (zeros 64) := by rw [hW2, hg]; exact blk_new wc _
          have hgh : gh < g := by rw [hg]; exact HP.out.half.lt (by omega)
          have hgw : gw < g := by rw [hg]; exact HP.out.word.lt (by omega)
          have hgb : b ≤ g := by have := HP.out.gh; omega
          have HQ1 : Hid (Calls Tryz.prog 63 #[.slice (some ⟨g, 0, none⟩) 64 64, .slice (some ⟨gh, 0, none⟩) 2 2] W2 fun e w' => e = .returned (.int .i64 4) ∧ RAt w' g (splice (zeros 64) 0 (leLs 2 (halfL l))) ∧ PkAt w b gh gw l w') := Hid.mk (by
            refine (put16_any W2 g 0 64 64 (zeros 64) (some ⟨gh, 0, none⟩) 2 2 (halfL l) hR2 hP2.half (fun a e => by cases e; exact Nat.ne_of_lt hgh) (by rw [HH.out]; exact fitL_iff.1 H2.out) (by omega) (by rw [zeros_length]; omega) (by omega)).mono ?_
            rintro e w' ⟨rfl, h1, h2⟩
            exact ⟨rfl, h1, hP2.put h2 hgh hgw⟩)
          have HQ2 : Hid (∀ W3, RAt W3 g (splice (zeros 64) 0 (leLs 2 (halfL l))) → PkAt w b gh gw l W3 → Calls Tryz.prog 61 #[.slice (some ⟨g, 4, none⟩) 60 60, .slice (some ⟨gw, 0, none⟩) 11 c] W3 fun e w' => e = .returned (.int .i64 44) ∧ RAt w' g (inoL l) ∧ PkAt w b gh gw l w') := Hid.mk (fun W3 h1 h2 => by
            refine (put32_any W3 g 4 60 60 _ (some ⟨gw, 0, none⟩) 11 c (l.drop 2) h1 h2.word (fun a e => by cases e; exact Nat.ne_of_lt hgw) (fitL_iff.1 H3.out) (by omega) (by rw [splice_length _ _ _ (by simp [leLs_length, halfL, zeros_length]), zeros_length]; omega) (by omega)).mono ?_
            rintro e w' ⟨rfl, h3, h4⟩
            rw [ino_put l hl] at h3
            exact ⟨rfl, h3, h2.put h4 hgh hgw⟩)
          have HMK := Hid.mk hMK
          have HGB := Hid.mk hgb
          clear hMK hP2 hR2 hW2 hg hgh hgw hgb
          by_cases h4 : K = 0
          · subst h4
            cases h5 : eqB l (zeros 13) with
            | false =>
              have HD := Hid.mk (show fineL l = false by rw [HFE.out, H1.out, H2.out, H3.out, h5]; rfl)
              have H5 := Hid.mk h5
              clear h5 HFE HQ1 HQ2 HMK
              go_wp2_with (first
                | (go_at_call 69; refine (iskind_any _ _).mono ?_; rintro e w' ⟨rfl, hw⟩; subst w'; rw [H1.out])
                | (go_at_call 70; refine (fits16_any _ _ 2 2 _ HLA.out (by omega)).mono ?_; rintro e w' ⟨rfl, hw⟩; subst w'; rw [H2.out])
                | (go_at_call 71; refine (fits32_any _ _ 11 c _ HLB.out (by omega)).mono ?_; rintro e w' ⟨rfl, hw⟩; subst w'; rw [H3.out])
                | (refine wpL_load (.tmp 1) rfl rfl b l rfl HP.out.ino hl ?_)
                | (refine wpL_build rfl rfl ?_)
                | (refine wpL_neq (.tmp 32) (.tmp 33) 55 rfl rfl l (zeros 13) false H5.out rfl rfl hl (zeros_length 13) ?_))
              go_ret2
              exact ⟨HP.out.below, .inl ⟨HD.out, rfl⟩⟩
            | true =>
              have HD := Hid.mk (show fineL l = true by rw [HFE.out, H1.out, H2.out, H3.out, h5]; rfl)
              have H5 := Hid.mk h5
              clear h5 HFE
              go_wp2_with (first
                | (go_at_call 69; refine (iskind_any _ _).mono ?_; rintro e w' ⟨rfl, hw⟩; subst w'; rw [H1.out])
                | (go_at_call 70; refine (fits16_any _ _ 2 2 _ HLA.out (by omega)).mono ?_; rintro e w' ⟨rfl, hw⟩; subst w'; rw [H2.out])
                | (go_at_call 71; refine (fits32_any _ _ 11 c _ HLB.out (by omega)).mono ?_; rintro e w' ⟨rfl, hw⟩; subst w'; rw [H3.out])
                | (refine wpL_load (.tmp 1) rfl rfl b l rfl HP.out.ino hl ?_)
                | (refine wpL_build rfl rfl ?_)
                | (refine wpL_neq (.tmp 32) (.tmp 33) 55 rfl rfl l (zeros 13) true H5.out rfl rfl hl (zeros_length 13) ?_)
                | (at_make; refine wpList_make_known rfl _ _ 26 rfl _ _ _ _ rfl rfl HMK.out ?_)
                | (go_at_call 63; refine HQ1.out.mono ?_; rintro e W3 ⟨rfl, hr3, hp3⟩; have HR3 := Hid.mk hr3; have HP3 := Hid.mk hp3; clear hr3 hp3)
                | (go_at_call 61; refine (HQ2.out _ HR3.out HP3.out).mono ?_; rintro e W4 ⟨rfl, hr4, hp4⟩; have HR4 := Hid.mk hr4; have HP4 := Hid.mk hp4; clear hr4 hp4))
              go_ret2
              exact ⟨HP4.out.below, .inr ⟨HD.out, g, rfl, HR4.out, HGB.out⟩⟩
          · have HD := Hid.mk (show fineL l = true by rw [HFE.out, H1.out, H2.out, H3.out, decide_eq_false h4]; rfl)
            have hk0 : (K == 0) = false := by simp [h4]
            clear HFE
            go_wp2_with (first
              | (go_at_call 69; refine (iskind_any _ _).mono ?_; rintro e w' ⟨rfl, hw⟩; subst w'; rw [H1.out])
              | (go_at_call 70; refine (fits16_any _ _ 2 2 _ HLA.out (by omega)).mono ?_; rintro e w' ⟨rfl, hw⟩; subst w'; rw [H2.out])
              | (go_at_call 71; refine (fits32_any _ _ 11 c _ HLB.out (by omega)).mono ?_; rintro e w' ⟨rfl, hw⟩; subst w'; rw [H3.out])
              | (at_make; refine wpList_make_known rfl _ _ 26 rfl _ _ _ _ rfl rfl HMK.out ?_)
              | (go_at_call 63; refine HQ1.out.mono ?_; rintro e W3 ⟨rfl, hr3, hp3⟩; have HR3 := Hid.mk hr3; have HP3 := Hid.mk hp3; clear hr3 hp3)
              | (go_at_call 61; refine (HQ2.out _ HR3.out HP3.out).mono ?_; rintro e W4 ⟨rfl, hr4, hp4⟩; have HR4 := Hid.mk hr4; have HP4 := Hid.mk hp4; clear hr4 hp4))
            go_ret2
            exact ⟨HP4.out.below, .inr ⟨HD.out, g, rfl, HR4.out, HGB.out⟩⟩
end Din
end Go.Proofs.YtejnmpnioeamhaaGreat
namespace Go.Proofs.YtejnmpnioeamhaaGreat
open Go Go.Proofs Go.RowKit Go.Shelf
namespace Din
set_option maxRecDepth 100000 in
theorem pack_no (w : World) (l : List Int) (hl : l.length = 13) (h : fineL l = false) : Calls Tryz.prog 32 #[inoV l] w fun e w' => e = .returned (.tuple #[.slice none 0 0, .int .i64 1]) ∧ Below w.heap.size w w' := by
  refine (pack_any w l hl).mono ?_
  rintro e w' ⟨hB, ⟨-, rfl⟩ | ⟨h2, -⟩⟩
  · exact ⟨rfl, hB⟩
  · rw [h] at h2; cases h2
set_option maxRecDepth 100000 in
theorem pack_yes (w : World) (l : List Int) (hl : l.length = 13) (h : fineL l = true) : Calls Tryz.prog 32 #[inoV l] w fun e w' => ∃ g, e = .returned (.tuple #[.slice (some ⟨g, 0, none⟩) 64 64, .int .i64 0]) ∧ RAt w' g (inoL l) ∧ w.heap.size ≤ g ∧ Below w.heap.size w w' := by
  refine (pack_any w l hl).mono ?_
  rintro e w' ⟨hB, ⟨h2, -⟩ | ⟨-, g, rfl, h3, h4⟩⟩
  · rw [h] at h2; cases h2
  · exact ⟨g, rfl, h3, h4, hB⟩
set_option maxRecDepth 100000 in
theorem _root_.Go.Proofs.YtejnmpnioeamhaaGreat.BAt.frontDin {W : World} {a : Addr} {n : Nat} {xs : List Int} (h : BAt W (some a) n xs) (m : Nat) (hm : m ≤ n) : BAt W (some a) m (xs.take m) := by
  refine ⟨by simp [h.1]; omega, fun hp => ?_⟩
  obtain ⟨a', e, hlt, hc⟩ := h.2 (by omega)
  refine ⟨a', e, hlt, fun i hi => ?_⟩
  rw [hc i (by omega)]
  simp [List.getD, hi]
theorem alloc24_any (W : World) : ∃ X c, (Instr.alloc 55 true (.tuple #[])).run Tryz.prog W = .ok (.pointer (some ⟨c, 0, none⟩)) X ∧ NAt c (zeros 13) X ∧ Below W.heap.size W X ∧ W.heap.size ≤ c :=
  ⟨_, _, alloc24_run W, NAt.new W _, (Below.refl _ W).alloc (Nat.le_refl _) _, Nat.le_refl _⟩
end Din
end Go.Proofs.YtejnmpnioeamhaaGreat
namespace Go.Proofs.YtejnmpnioeamhaaGreat
open Go Go.Proofs Go.RowKit Go.Shelf
namespace Din
set_option maxRecDepth 100000 in
/-- A new variable for an inode. -/
theorem var24 (W : World) (m : List Int) (hm : m.length = 13) : ∃ X Y d, (Instr.alloc 55 true (.tuple #[])).run Tryz.prog W = .ok (.pointer (some ⟨d, 0, none⟩)) X ∧ (Instr.storeAt 55 (.pointer (some ⟨d, 0, none⟩)) (inoV m)).run Tryz.prog X = .ok () Y ∧ NAt d m Y ∧ Below W.heap.size W Y ∧ W.heap.size ≤ d := by
  obtain ⟨X, d, h1, h2, h3, h4⟩ := alloc24_any W
  obtain ⟨Y, k1, k2, k3⟩ := store24_run (m := m) h2 (zeros_length 13) hm
  exact ⟨X, Y, d, h1, k1, k2, h3.trans (k3.below h3.size (fun k e => by rw [e]; exact h4)), h4⟩
theorem free_reads : rdB (zeros 64) = true ∧ rdL (zeros 64) = zeros 13 ∧ rdE (zeros 64) = 0 := by
  have h : rdB (zeros 64) = true := by decide +kernel
  exact ⟨h, by rw [(rd_yes h).1]; decide +kernel, (rd_yes h).2⟩
theorem spoilt_reads : rdB ((zeros 64).set 60 1) = false := by decide +kernel
theorem _root_.Go.Proofs.YtejnmpnioeamhaaGreat.RAt.set {W : World} {g : Nat} {xs : List Int} (h : RAt W g xs) (i : Nat) (y : Int) : RAt (W.setCell ⟨g, i, none⟩ (.int .u8 y)) g (xs.set i y) := by
  unfold RAt
  rw [blk_set h, By_setArr]
set_option maxRecDepth 100000 in
theorem _root_.Go.Proofs.YtejnmpnioeamhaaGreat.RAt.cell {W : World} {g : Nat} {xs : List Int} (h : RAt W g xs) (i : Nat) (hi : i < xs.length) : W.cell? ⟨g, i, none⟩ = some (.int .u8 (xs.getD i 0)) ∧ W.frozen? ⟨g, i, none⟩ = false := by
  refine ⟨?_, blk_free h i⟩
  rw [blk_cell h]
  simpa using By_get xs i hi
theorem set_bound (xs : List Int) (h : ∀ x ∈ xs, 0 ≤ x ∧ x ≤ 255) (i : Nat) (y : Int) (hy : 0 ≤ y ∧ y ≤ 255) : ∀ x ∈ xs.set i y, 0 ≤ x ∧ x ≤ 255 := by
  intro x hx
  rcases List.mem_or_eq_of_mem_set hx with h' | h'
  · exact h x h'
  · rw [h']; exact hy
set_option maxRecDepth 100000 in
theorem alive1 {w W1 W2 : World} {B : Nat} (hB1 : Below B w W1) (hR1 : RAt W1 B (zeros 64)) (hB2 : Below W1.heap.size W1 W2) : ∃ X Y d, (Instr.alloc 55 true (.tuple #[])).run Tryz.prog W2 = .ok (.pointer (some ⟨d, 0, none⟩)) X ∧ (Instr.storeAt 55 (.pointer (some ⟨d, 0, none⟩)) (inoV (zeros 13))).run Tryz.prog X = .ok () Y ∧
    (Y.cell? ⟨B, 60, none⟩ = some (.int .u8 0) ∧ Y.frozen? ⟨B, 60, none⟩ = false) ∧ RAt (Y.setCell ⟨B, 60, none⟩ (.int .u8 1)) B ((zeros 64).set 60 1) ∧ NAt d (zeros 13) (Y.setCell ⟨B, 60, none⟩ (.int .u8 1)) ∧ Below B w (Y.setCell ⟨B, 60, none⟩ (.int .u8 1)) := by
  obtain ⟨X, Y, d, hrX, hrY, hD, hBY, hd⟩ := var24 W2 (zeros 13) (zeros_length 13)
  have hlt := hR1.lt
  have hRY := (hR1.below hB2 hlt).below hBY (Nat.lt_of_lt_of_le hlt hB2.size)
  have hbd : B < d := Nat.lt_of_lt_of_le hlt (Nat.le_trans hB2.size hd)
  have hBW := (hB1.trans (hB2.mono (Nat.le_of_lt hlt))).trans (hBY.mono (Nat.le_trans (Nat.le_of_lt hlt) hB2.size))
  exact ⟨X, Y, d, hrX, hrY, hRY.cell 60 (by rw [zeros_length]; omega), hRY.set 60 1, hD.only ((Only.refl (fun k => k = B) Y).setCell (p := ⟨B, 60, none⟩) (.inl rfl) (.int .u8 1)) (by omega), hBW.setCell (p := ⟨B, 60, none⟩) (Nat.le_refl _) (.int .u8 1)⟩
set_option maxRecDepth 100000 in
theorem alive2 {w Z W3 : World} {B d : Nat} (hB : Below B w Z) (hR : RAt Z B ((zeros 64).set 60 1)) (hD : NAt d (zeros 13) Z) (hB3 : Below Z.heap.size Z W3) : ∃ X Y e, (Instr.alloc 55 true (.tuple #[])).run Tryz.prog W3 = .ok (.pointer (some ⟨e, 0, none⟩)) X ∧ (Instr.storeAt 55 (.pointer (some ⟨e, 0, none⟩)) (inoV (zeros 13))).run Tryz.prog X = .ok () Y ∧
    Y.cell? ⟨d, 0, none⟩ = some (.int .i64 0) ∧ Below B w Y := by
  obtain ⟨X, Y, e, hrX, hrY, hD2, hBY, hd⟩ := var24 W3 (zeros 13) (zeros_length 13)
  have hlt := hR.lt
  have hDY := (hD.below hB3 hD.lt).below hBY (Nat.lt_of_lt_of_le hD.lt hB3.size)
  exact ⟨X, Y, e, hrX, hrY, hDY.cell 0 (by rw [zeros_length]; omega), (hB.trans (hB3.mono (Nat.le_of_lt hlt))).trans (hBY.mono (Nat.le_trans (Nat.le_of_lt hlt) hB3.size))⟩
end Din
end Go.Proofs.YtejnmpnioeamhaaGreat
namespace Go.Proofs.YtejnmpnioeamhaaGreat
open Go Go.Proofs Go.RowKit Go.Shelf
namespace Din
/-- What the reference asks ahead of the direct ones. -/
def preB (l : List Int) : Bool := decide (0 ≤ l.getD 0 0) && (decide (l.getD 0 0 ≤ 2) && ((!decide (l.getD 0 0 = 0) || eqB l (zeros 13)) && (fitB 65535 (l.getD 1 0) && (fitB 4294967295 (l.getD 2 0) && (fitB 4294967295 (l.getD 11 0) && fitB 4294967295 (l.getD 12 0))))))
def dirL (l : List Int) : List Int := (l.drop 3).take 8
theorem kind_iff (k : Int) : kindB k = (decide (0 ≤ k) && decide (k ≤ 2)) := by
  rw [Bool.eq_iff_iff]
  simp [kindB]
  omega
theorem fit_low (k : Int) (h : decide (0 ≤ k) = true) (h2 : decide (k ≤ 2) = true) : fitB 65535 k = true := by
  simp at h h2
  exact fitB_iff.2 (by omega)
set_option maxRecDepth 100000 in
theorem fine_pre (l : List Int) (hl : l.length = 13) : fineL l = (preB l && fitL 4294967295 (dirL l)) := by
  have h1 : fitL 65535 (halfL l) = (fitB 65535 (l.getD 0 0) && fitB 65535 (l.getD 1 0)) := by simp [fitL, halfL]
  have h2 : fitL 4294967295 (l.drop 2) = (fitB 4294967295 (l.getD 2 0) && (fitL 4294967295 (dirL l) && (fitB 4294967295 (l.getD 11 0) && fitB 4294967295 (l.getD 12 0)))) := by
    obtain ⟨a0, a1, a2, a3, a4, a5, a6, a7, a8, a9, a10, a11, a12, rfl⟩ := list13 l hl
    simp [fitL, dirL, Bool.and_assoc]
  unfold fineL preB
  rw [h1, h2, kind_iff]
  cases e0 : decide (0 ≤ l.getD 0 0) with
  | false => rfl
  | true =>
    cases e1 : decide (l.getD 0 0 ≤ 2) with
    | false => rfl
    | true =>
      rw [fit_low _ e0 e1]
      generalize fitB 65535 (l.getD 1 0) = x1
      generalize fitB 4294967295 (l.getD 2 0) = x2
      generalize fitL 4294967295 (dirL l) = x3
      generalize fitB 4294967295 (l.getD 11 0) = x4
      generalize fitB 4294967295 (l.getD 12 0) = x5
      generalize (!decide (l.getD 0 0 = 0) || eqB l (zeros 13)) = x6
      cases x1 <;> cases x2 <;> cases x3 <;> cases x4 <;> cases x5 <;> cases x6 <;> rfl
set_option maxRecDepth 100000 in
theorem pre_parts {l : List Int} (h : preB l = true) : (0 ≤ l.getD 0 0 ∧ l.getD 0 0 ≤ 2) ∧ (0 ≤ l.getD 1 0 ∧ l.getD 1 0 ≤ 65535) ∧ (0 ≤ l.getD 2 0 ∧ l.getD 2 0 ≤ 4294967295) ∧ (0 ≤ l.getD 11 0 ∧ l.getD 11 0 ≤ 4294967295) ∧ (0 ≤ l.getD 12 0 ∧ l.getD 12 0 ≤ 4294967295) := by
  unfold preB at h
  simp only [Bool.and_eq_true, decide_eq_true_eq, fitB_iff] at h
  exact ⟨⟨h.1, h.2.1⟩, h.2.2.2.1, h.2.2.2.2.1, h.2.2.2.2.2.1, h.2.2.2.2.2.2⟩
set_option maxRecDepth 100000 in
theorem ino_parts (l : List Int) (hl : l.length = 13) : ((leL (l.getD 0 0) 2 ++ leL (l.getD 1 0) 2 ++ leL (l.getD 2 0) 4) ++ leLs 4 (dirL l) ++ leL (l.getD 11 0) 4 ++ leL (l.getD 12 0) 4) ++ zeros 16 = inoL l := by
  obtain ⟨a0, a1, a2, a3, a4, a5, a6, a7, a8, a9, a10, a11, a12, rfl⟩ := list13 l hl
  simp [inoL, halfL, leLs, dirL]
theorem dir_at (l : List Int) (k : Nat) (hk : k < 8) : (dirL l).getD k 0 = l.getD (3 + k) 0 := by
  simp [dirL, List.getD, hk]
theorem dir_length (l : List Int) (hl : l.length = 13) : (dirL l).length = 8 := by simp [dirL, hl]
set_option maxRecDepth 100000 in
set_option maxHeartbeats 8000000 in
theorem rpack_any (w : World) (l : List Int) (hl : l.length = 13) : Calls Tryz.prog 55 #[inoV l] w fun e w' => Below w.heap.size w w' ∧ ((fineL l = false ∧ e = .returned (.tuple #[.slice none 0 0, .bool false])) ∨
    (fineL l = true ∧ ∃ v', e = .returned (.tuple #[v', .bool true]) ∧ w'.ownsRow w.heap.size 5 1 v' 64 (By (inoL l)))) := by
  obtain ⟨W1, hW1⟩ : ∃ W1, W1 = w.alloc (.cells (Iy l).toArray 55) := ⟨_, rfl⟩
  have hB1 : Below w.heap.size w W1 := by rw [hW1]; exact (Below.refl _ w).alloc (Nat.le_refl _) _
  have hN1 : NAt w.heap.size l W1 := by rw [hW1]; exact NAt.new w l
  obtain ⟨b, hb⟩ : ∃ b, b = w.heap.size := ⟨_, rfl⟩
  rw [← hb] at hN1 hB1 ⊢
  have HW1 := Hid.mk hW1
  have HBE := Hid.mk hb
  clear hW1 hb
  have HN1 := Hid.mk hN1
  have HB1 := Hid.mk hB1
  have HPRE : Hid (preB l = preB l) := Hid.mk rfl
  have HC : Hid (∀ W', NAt b l W' → W'.cell? ⟨b, 0, none⟩ = some (.int .i64 (l.getD 0 0)) ∧ W'.cell? ⟨b, 1, none⟩ = some (.int .i64 (l.getD 1 0)) ∧ W'.cell? ⟨b, 2, none⟩ = some (.int .i64 (l.getD 2 0)) ∧ W'.cell? ⟨b, 11, none⟩ = some (.int .i64 (l.getD 11 0)) ∧ W'.cell? ⟨b, 12, none⟩ = some (.int .i64 (l.getD 12 0))) := Hid.mk (fun W' h => ⟨h.cell 0 (by omega), h.cell 1 (by omega), h.cell 2 (by omega), h.cell 11 (by omega), h.cell 12 (by omega)⟩)
  have HFP := Hid.mk (fine_pre l hl)
  have HPP : Hid (preB l = true → _) := Hid.mk (pre_parts (l := l))
  have HIP := Hid.mk (ino_parts l hl)
  have HPD : Hid (preB l = (decide (0 ≤ l.getD 0 0) && (decide (l.getD 0 0 ≤ 2) && ((!decide (l.getD 0 0 = 0) || eqB l (zeros 13)) && (fitB 65535 (l.getD 1 0) && (fitB 4294967295 (l.getD 2 0) && (fitB 4294967295 (l.getD 11 0) && fitB 4294967295 (l.getD 12 0)))))))) := Hid.mk rfl
  clear hN1 hB1 HPRE
  have HZ : Hid (eqB l (zeros 13) = true → l.getD 1 0 = 0 ∧ l.getD 2 0 = 0 ∧ l.getD 11 0 = 0 ∧ l.getD 12 0 = 0) := Hid.mk (fun h => by
    have e : l = zeros 13 := by simpa [eqB] using h
    rw [e]
    exact ⟨rfl, rfl, rfl, rfl⟩)
  generalize l.getD 0 0 = K at *
  generalize l.getD 1 0 = L at *
  generalize l.getD 2 0 = S at *
  generalize l.getD 11 0 = G at *
  generalize l.getD 12 0 = D at *
  obtain ⟨c0, c1, c2, c11, c12⟩ := HC.out W1 HN1.out
  go_enter Tryz.func55, Tryz.ntmps55
  go_upto_region 1 with (refine wpL_box (.tmp 0) rfl rfl l rfl ?_)
  rw [← HBE.out, ← HW1.out]
  go_cut [47] from 6 to 46 (fun v wx => v = .bool (!preB l) ∧ wx = W1)
  case first =>
    by_cases k0 : K < 0
    · have HV : Hid (preB l = false) := Hid.mk (by rw [HPD.out, decide_eq_false (show ¬ 0 ≤ K by omega)]; rfl)
      go_wp2_with fail
      go_meet
      case rel => exact ⟨by rw [HV.out]; rfl, rfl⟩
    · have d0 : decide (0 ≤ K) = true := decide_eq_true (by omega)
      by_cases k2 : 2 < K
      · have HV : Hid (preB l = false) := Hid.mk (by rw [HPD.out, d0, decide_eq_false (show ¬ K ≤ 2 by omega)]; rfl)
        clear d0
        go_wp2_with fail
        go_meet
        case rel => exact ⟨by rw [HV.out]; rfl, rfl⟩
      · have d2 : decide (K ≤ 2) = true := decide_eq_true (by omega)
        by_cases kz : K = 0
        · subst kz
          cases he : eqB l (zeros 13) with
          | false =>
            have HV : Hid (preB l = false) := Hid.mk (by rw [HPD.out, he]; rfl)
            have HE := Hid.mk he
            clear he d0 d2
            go_wp2_with (first
              | (refine wpL_load (.tmp 1) rfl rfl b l rfl HN1.out hl ?_)
              | (refine wpL_build rfl rfl ?_)
              | (refine wpL_neq (.tmp 19) (.tmp 20) 55 rfl rfl l (zeros 13) false HE.out rfl rfl hl (zeros_length 13) ?_))
            go_meet
            case rel => exact ⟨by rw [HV.out]; rfl, rfl⟩
          | true =>
            obtain ⟨rfl, rfl, rfl, rfl⟩ := HZ.out he
            have HV : Hid (preB l = true) := Hid.mk (by rw [HPD.out, he]; decide)
            have HE := Hid.mk he
            have HF2 : Hid (fitB 65535 0 = true) := Hid.mk (by decide)
            have HF4 : Hid (fitB 4294967295 0 = true) := Hid.mk (by decide)
            clear he d0 d2
            go_wp2_with (first
              | (refine wpL_load (.tmp 1) rfl rfl b l rfl HN1.out hl ?_)
              | (refine wpL_build rfl rfl ?_)
              | (refine wpL_neq (.tmp 19) (.tmp 20) 55 rfl rfl l (zeros 13) true HE.out rfl rfl hl (zeros_length 13) ?_)
              | (go_at_call 84; have hF := HF2.out; refine (rfits2_any _ 0).mono ?_; rintro e w3 ⟨rfl, hw⟩; subst w3; rw [hF]; clear hF HF2)
              | (go_at_call 84; refine (rfits4_any _ 0).mono ?_; rintro e w3 ⟨rfl, hw⟩; subst w3; rw [HF4.out]))
            go_meet
            case rel => exact ⟨by rw [HV.out]; rfl, rfl⟩
        · have bz : (K == 0) = false := by simp [kz]
          have hpd : preB l = (fitB 65535 L && (fitB 4294967295 S && (fitB 4294967295 G && fitB 4294967295 D))) := by rw [HPD.out, d0, d2, decide_eq_false kz]; rfl
          have HPE := Hid.mk hpd
          clear hpd d0 d2
          cases f1 : fitB 65535 L with
          | false =>
            have HV : Hid (preB l = false) := Hid.mk (by rw [HPE.out, f1]; rfl)
            have F1 := Hid.mk f1
            clear f1
            go_wp2_with (first
              | (go_at_call 84; have hF := F1.out; refine (rfits2_any _ L).mono ?_; rintro e w3 ⟨rfl, hw⟩; subst w3; rw [hF]; clear hF F1))
            go_meet
            case rel => exact ⟨by rw [HV.out]; rfl, rfl⟩
          | true =>
            have F1 := Hid.mk f1
            clear f1
            cases f2 : fitB 4294967295 S with
            | false =>
              have HV : Hid (preB l = false) := Hid.mk (by rw [HPE.out, F1.out, f2]; rfl)
              have F2 := Hid.mk f2
              clear f2
              go_wp2_with (first
                | (go_at_call 84; have hF := F1.out; refine (rfits2_any _ L).mono ?_; rintro e w3 ⟨rfl, hw⟩; subst w3; rw [hF]; clear hF F1)
                | (go_at_call 84; have hF := F2.out; refine (rfits4_any _ S).mono ?_; rintro e w3 ⟨rfl, hw⟩; subst w3; rw [hF]; clear hF F2))
              go_meet
              case rel => exact ⟨by rw [HV.out]; rfl, rfl⟩
            | true =>
              have F2 := Hid.mk f2
              clear f2
              cases f3 : fitB 4294967295 G with
              | false =>
                have HV : Hid (preB l = false) := Hid.mk (by rw [HPE.out, F1.out, F2.out, f3]; rfl)
                have F3 := Hid.mk f3
                clear f3
                go_wp2_with (first
                  | (go_at_call 84; have hF := F1.out; refine (rfits2_any _ L).mono ?_; rintro e w3 ⟨rfl, hw⟩; subst w3; rw [hF]; clear hF F1)
                  | (go_at_call 84; have hF := F2.out; refine (rfits4_any _ S).mono ?_; rintro e w3 ⟨rfl, hw⟩; subst w3; rw [hF]; clear hF F2)
                  | (go_at_call 84; have hF := F3.out; refine (rfits4_any _ G).mono ?_; rintro e w3 ⟨rfl, hw⟩; subst w3; rw [hF]; clear hF F3))
                go_meet
                case rel => exact ⟨by rw [HV.out]; rfl, rfl⟩
              | true =>
                have F3 := Hid.mk f3
                clear f3
                cases f4 : fitB 4294967295 D with
                | false =>
                  have HV : Hid (preB l = false) := Hid.mk (by rw [HPE.out, F1.out, F2.out, F3.out, f4]; rfl)
                  have F4 := Hid.mk f4
                  clear f4
                  go_wp2_with (first
                    | (go_at_call 84; have hF := F1.out; refine (rfits2_any _ L).mono ?_; rintro e w3 ⟨rfl, hw⟩; subst w3; rw [hF]; clear hF F1)
                    | (go_at_call 84; have hF := F2.out; refine (rfits4_any _ S).mono ?_; rintro e w3 ⟨rfl, hw⟩; subst w3; rw [hF]; clear hF F2)
                    | (go_at_call 84; have hF := F3.out; refine (rfits4_any _ G).mono ?_; rintro e w3 ⟨rfl, hw⟩; subst w3; rw [hF]; clear hF F3)
                    | (go_at_call 84; have hF := F4.out; refine (rfits4_any _ D).mono ?_; rintro e w3 ⟨rfl, hw⟩; subst w3; rw [hF]; clear hF F4))
                  go_meet
                  case rel => exact ⟨by rw [HV.out]; rfl, rfl⟩
                | true =>
                  have F4 := Hid.mk f4
                  clear f4
                  have HV : Hid (preB l = true) := Hid.mk (by rw [HPE.out, F1.out, F2.out, F3.out, F4.out]; rfl)
                  go_wp2_with (first
                    | (go_at_call 84; have hF := F1.out; refine (rfits2_any _ L).mono ?_; rintro e w3 ⟨rfl, hw⟩; subst w3; rw [hF]; clear hF F1)
                    | (go_at_call 84; have hF := F2.out; refine (rfits4_any _ S).mono ?_; rintro e w3 ⟨rfl, hw⟩; subst w3; rw [hF]; clear hF F2)
                    | (go_at_call 84; have hF := F3.out; refine (rfits4_any _ G).mono ?_; rintro e w3 ⟨rfl, hw⟩; subst w3; rw [hF]; clear hF F3)
                    | (go_at_call 84; have hF := F4.out; refine (rfits4_any _ D).mono ?_; rintro e w3 ⟨rfl, hw⟩; subst w3; rw [hF]; clear hF F4))
                  go_meet
                  case rel => exact ⟨by rw [HV.out]; rfl, rfl⟩
  case rest =>
    obtain ⟨rfl, hwc⟩ := hcut
    subst hwc
    cases hpre : preB l with
    | false =>
      have HD := Hid.mk (show fineL l = false by rw [HFP.out, hpre]; rfl)
      clear hpre
      go_wp2_with fail
      go_ret2
      exact ⟨HB1.out, .inl ⟨HD.out, rfl⟩⟩
    | true =>
      obtain ⟨⟨k0, k2⟩, ⟨l0, l1⟩, ⟨s0, s1⟩, ⟨g0, g1⟩, ⟨d0, d1⟩⟩ := HPP.out hpre
      have HFE : Hid (fineL l = fitL 4294967295 (dirL l)) := Hid.mk (by rw [HFP.out, hpre]; rfl)
      obtain ⟨B, hB⟩ : ∃ B, B = wc.heap.size := ⟨_, rfl⟩
      have hbB : b < B := by rw [hB]; exact HN1.out.lt
      have HBs : Hid (B ≤ wc.heap.size) := Hid.mk (by omega)
      have HDL := Hid.mk (dir_length l hl)
      have HDA := Hid.mk (dir_at l)
      rw [Bool.not_true]
      clear hpre HFP HPP hB c0 c1 c2 c11 c12 HZ HPD
      go_wp2_with fail
      refine wp_region_held_drew (S := NAt b l) (by kernel_rfl) HN1.out (fun hH => ?_)
      change wpAnyH Tryz.prog Region.Mode.any _ _ _ 10 _ _ _
      refine takeH 0 48 (.pointer (some ⟨b, 0, none⟩)) rfl (by kernel_rfl) (by kernel_rfl) (by kernel_rfl) (by kernel_rfl) (fun _ _ _ h => h) (by kernel_rfl) (fun w hw => by (try dsimp only at hw); go_simp) hH ?_
      simp only [List.setIfInBounds_toArray, List.set_cons_zero, List.set_cons_succ]
      refine takeH 1 49 (.int .i64 K) rfl (by kernel_rfl) (by kernel_rfl) (by kernel_rfl) (by kernel_rfl) (fun _ _ _ h => h) (by kernel_rfl) (fun w hw => by (have h := HC.out _ hw; obtain ⟨e0, e1, e2, e11, e12⟩ := h; go_simp)) hH ?_
      simp only [List.setIfInBounds_toArray, List.set_cons_zero, List.set_cons_succ]
      refine takeH 3 51 (.pointer (some ⟨b, 1, none⟩)) rfl (by kernel_rfl) (by kernel_rfl) (by kernel_rfl) (by kernel_rfl) (fun _ _ _ h => h) (by kernel_rfl) (fun w hw => by (try dsimp only at hw); go_simp) hH ?_
      simp only [List.setIfInBounds_toArray, List.set_cons_zero, List.set_cons_succ]
      refine takeH 4 52 (.int .i64 L) rfl (by kernel_rfl) (by kernel_rfl) (by kernel_rfl) (by kernel_rfl) (fun _ _ _ h => h) (by kernel_rfl) (fun w hw => by (have h := HC.out _ hw; obtain ⟨e0, e1, e2, e11, e12⟩ := h; go_simp)) hH ?_
      simp only [List.setIfInBounds_toArray, List.set_cons_zero, List.set_cons_succ]
      refine takeH 6 54 (.pointer (some ⟨b, 2, none⟩)) rfl (by kernel_rfl) (by kernel_rfl) (by kernel_rfl) (by kernel_rfl) (fun _ _ _ h => h) (by kernel_rfl) (fun w hw => by (try dsimp only at hw); go_simp) hH ?_
      simp only [List.setIfInBounds_toArray, List.set_cons_zero, List.set_cons_succ]
      refine takeH 7 55 (.int .i64 S) rfl (by kernel_rfl) (by kernel_rfl) (by kernel_rfl) (by kernel_rfl) (fun _ _ _ h => h) (by kernel_rfl) (fun w hw => by (have h := HC.out _ hw; obtain ⟨e0, e1, e2, e11, e12⟩ := h; go_simp)) hH ?_
      simp only [List.setIfInBounds_toArray, List.set_cons_zero, List.set_cons_succ]
      have HB0 : Hid (Below B wc.drew wc.drew) := Hid.mk (Below.refl _ _)
      have HBd : Hid (B ≤ wc.drew.heap.size) := HBs
      refine stepH_call 2 50 rfl (by kernel_rfl) (by kernel_rfl) (by kernel_rfl) 85 #[.const (.slice none 0 0), .tmp 49, .const (.int .i64 2)] #[26, 3, 3] (by kernel_rfl) (enters_of Tryz.func85 (by kernel_rfl) rfl) #[.slice none 0 0, .int .i64 K, .int .i64 2] (by kernel_rfl) (rput_any wc.drew B (.slice none 0 0) 0 2 [] K (.inl (World.ownsRow_nil wc.drew B 5 1)) HBd.out (by omega) (by omega) (by omega) (by omega) (by omega)) ?_
      rintro e Wa ⟨va, rfl, ho, hb⟩
      have HOa := Hid.mk ho
      have HBWa := Hid.mk (HB0.out.trans hb)
      clear ho hb
      have hNWa : NAt b l Wa := NAt.below (W := wc.drew) HN1.out HBWa.out hbB
      refine ⟨_, rfl, hNWa, ?_⟩
      simp only [List.setIfInBounds_toArray, List.set_cons_zero, List.set_cons_succ]
      refine stepH_call 5 53 rfl (by kernel_rfl) (by kernel_rfl) (by kernel_rfl) 85 #[.tmp 50, .tmp 52, .const (.int .i64 2)] #[26, 3, 3] (by kernel_rfl) (enters_of Tryz.func85 (by kernel_rfl) rfl) #[va, .int .i64 L, .int .i64 2] (by kernel_rfl) (rput_any Wa B va 2 2 _ L (.inl HOa.out) (Nat.le_trans HBd.out HBWa.out.size) (by omega) (by omega) (by omega) (by omega) (by omega)) ?_
      rintro e Wb ⟨vb, rfl, ho, hb⟩
      have HOb := Hid.mk ho
      have HBWb := Hid.mk (HBWa.out.trans hb)
      clear ho hb
      have hNWb : NAt b l Wb := NAt.below (W := wc.drew) HN1.out HBWb.out hbB
      refine ⟨_, rfl, hNWb, ?_⟩
      simp only [List.setIfInBounds_toArray, List.set_cons_zero, List.set_cons_succ]
      refine stepH_call 8 56 rfl (by kernel_rfl) (by kernel_rfl) (by kernel_rfl) 85 #[.tmp 53, .tmp 55, .const (.int .i64 4)] #[26, 3, 3] (by kernel_rfl) (enters_of Tryz.func85 (by kernel_rfl) rfl) #[vb, .int .i64 S, .int .i64 4] (by kernel_rfl) (rput_any Wb B vb 4 4 _ S (.inl HOb.out) (Nat.le_trans HBd.out HBWb.out.size) (by omega) (by omega) (by omega) (by omega) (by omega)) ?_
      rintro e Wd ⟨vd, rfl, ho, hb⟩
      have HOd := Hid.mk ho
      have HBWd := Hid.mk (HBWb.out.trans hb)
      clear ho hb
      have hNWd : NAt b l Wd := NAt.below (W := wc.drew) HN1.out HBWd.out hbB
      refine ⟨_, rfl, hNWd, ?_⟩
      simp only [List.setIfInBounds_toArray, List.set_cons_zero, List.set_cons_succ]
      refine takeH 9 4 (vd) rfl (by kernel_rfl) (by kernel_rfl) (by kernel_rfl) (by kernel_rfl) (fun _ _ _ h => h) (by kernel_rfl) (fun w hw => by kernel_rfl) hNWd ?_
      simp only [List.setIfInBounds_toArray, List.set_cons_zero, List.set_cons_succ]
      refine wpAnyH_done (by kernel_rfl) ?_ _
      have HO : Hid (Wd.ownsRow B 5 1 vd (8 + 4 * 0) (By (leL K 2 ++ leL L 2 ++ leL S 4 ++ leLs 4 ((dirL l).take 0)))) := Hid.mk (by have h := HOd.out; simpa [leLs] using h)
      have HBB : Hid (Below b w Wd) := Hid.mk (HB1.out.drew.trans (HBWd.out.mono (by omega)))
      have HND := Hid.mk hNWd
      have HSD : Hid (B ≤ Wd.heap.size) := Hid.mk (Nat.le_trans HBd.out HBWd.out.size)
      clear hH HOa HOb HOd HBWa HBWb HBWd hNWa hNWb hNWd HB0 HBd
      go_wp2_with fail
      go_loopw [4, 5] (fun bv i wr => ∃ k : Nat, k ≤ 8 ∧ i = .int .i64 k ∧ wr.ownsRow B 5 1 bv (8 + 4 * k) (By (leL K 2 ++ leL L 2 ++ leL S 4 ++ leLs 4 ((dirL l).take k))) ∧ NAt b l wr ∧ Below b w wr ∧ B ≤ wr.heap.size ∧ ∀ j, j < k → fitB 4294967295 ((dirL l).getD j 0) = true) (fun _ i _ => 8 - (intOf i).toNat)
      case atStart => exact ⟨0, by omega, rfl, HO.out, HND.out, HBB.out, HSD.out, fun j hj => by omega⟩
      case round =>
        obtain ⟨k, hk, rfl, ho, hN, hBw, hs, hall⟩ := hrel
        have HO2 := Hid.mk ho
        have HN2 := Hid.mk hN
        have HB2 := Hid.mk hBw
        have HS2 := Hid.mk hs
        have HA := Hid.mk hall
        clear ho hN hBw hs hall HO HND HBB HSD
        by_cases hlt : k < 8
        · have hc := HN2.out.cell (3 + k) (by omega)
          rw [← HDA.out k hlt] at hc
          cases hf : fitB 4294967295 ((dirL l).getD k 0) with
          | false =>
            have HD := Hid.mk (show fineL l = false by rw [HFE.out]; exact fitL_no (by rw [HDL.out]; exact hlt) hf)
            have HF := Hid.mk hf
            clear hf
            generalize (dirL l).getD k 0 = x at *
            go_wp2_with (go_at_call 84; refine (rfits4_any _ x).mono ?_; rintro e w3 ⟨rfl, hw⟩; subst w3; rw [HF.out])
            go_ret2
            exact ⟨HB2.out, .inl ⟨HD.out, rfl⟩⟩
          | true =>
            have hxb := fitB_iff.1 hf
            have HA2 : Hid (∀ j, j < k + 1 → fitB 4294967295 ((dirL l).getD j 0) = true) := Hid.mk (fun j hj => by
              rcases Nat.lt_or_ge j k with h | h
              · exact HA.out j h
              · obtain rfl : j = k := by omega
                exact hf)
            have HF := Hid.mk hf
            have HT := Hid.mk (take_snoc (dirL l) k (by rw [HDL.out]; exact hlt))
            clear hf
            generalize (dirL l).getD k 0 = x at *
            have HPT := Hid.mk (rput_any wr B _ (8 + 4 * k) 4 _ x (.inl HO2.out) HS2.out (by omega) (by omega) (by omega) (by omega) (by omega))
            go_wp2_with (first
              | (go_at_call 84; refine (rfits4_any _ x).mono ?_; rintro e w3 ⟨rfl, hw⟩; subst w3; rw [HF.out])
              | (go_at_call 85; refine HPT.out.mono ?_; rintro e w4 ⟨v4, rfl, ho4, hb4⟩; have HO4 := Hid.mk ho4; have HN4 := Hid.mk (HN2.out.below hb4 hbB); have HB4 := Hid.mk (HB2.out.trans (hb4.mono (by omega))); have HS4 := Hid.mk (Nat.le_trans HS2.out hb4.size); clear ho4 hb4))
            go_roundw
            case rel => exact ⟨k + 1, by omega, by go_num, by rw [HT.out, leLs_snoc, ← List.append_assoc]; exact HO4.out, HN4.out, HB4.out, HS4.out, HA2.out⟩
            case measure => simp [intOf]; omega
        · have hge : (8 : Int) ≤ k := by omega
          obtain rfl : k = 8 := by omega
          have HD := Hid.mk (show fineL l = true by rw [HFE.out]; exact fitL_all (by rw [HDL.out]; exact HA.out))
          have HT := Hid.mk (List.take_of_length_le (l := dirL l) (i := 8) (by rw [HDL.out]; omega))
          rw [HT.out] at HO2
          go_wp2_with fail
          refine wp_region_held_drew (S := NAt b l) (by kernel_rfl) HN2.out (fun hH => ?_)
          change wpAnyH Tryz.prog Region.Mode.any _ _ _ 10 _ _ _
          have HB0 : Hid (Below B wr.drew wr.drew) := Hid.mk (Below.refl _ _)
          have HBd : Hid (B ≤ wr.drew.heap.size) := HS2
          refine takeH 0 73 (u4) rfl (by kernel_rfl) (by kernel_rfl) (by kernel_rfl) (by kernel_rfl) (fun _ _ _ h => h) (by kernel_rfl) (fun w hw => by kernel_rfl) hH ?_
          simp only [List.setIfInBounds_toArray, List.set_cons_zero, List.set_cons_succ]
          refine takeH 1 74 (.pointer (some ⟨b, 11, none⟩)) rfl (by kernel_rfl) (by kernel_rfl) (by kernel_rfl) (by kernel_rfl) (fun _ _ _ h => h) (by kernel_rfl) (fun w hw => by (try dsimp only at hw); go_simp) hH ?_
          simp only [List.setIfInBounds_toArray, List.set_cons_zero, List.set_cons_succ]
          refine takeH 2 75 (.int .i64 G) rfl (by kernel_rfl) (by kernel_rfl) (by kernel_rfl) (by kernel_rfl) (fun _ _ _ h => h) (by kernel_rfl) (fun w hw => by (have h := HC.out _ hw; obtain ⟨e0, e1, e2, e11, e12⟩ := h; go_simp)) hH ?_
          simp only [List.setIfInBounds_toArray, List.set_cons_zero, List.set_cons_succ]
          refine takeH 4 77 (.pointer (some ⟨b, 12, none⟩)) rfl (by kernel_rfl) (by kernel_rfl) (by kernel_rfl) (by kernel_rfl) (fun _ _ _ h => h) (by kernel_rfl) (fun w hw => by (try dsimp only at hw); go_simp) hH ?_
          simp only [List.setIfInBounds_toArray, List.set_cons_zero, List.set_cons_succ]
          refine takeH 5 78 (.int .i64 D) rfl (by kernel_rfl) (by kernel_rfl) (by kernel_rfl) (by kernel_rfl) (fun _ _ _ h => h) (by kernel_rfl) (fun w hw => by (have h := HC.out _ hw; obtain ⟨e0, e1, e2, e11, e12⟩ := h; go_simp)) hH ?_
          simp only [List.setIfInBounds_toArray, List.set_cons_zero, List.set_cons_succ]
          refine stepH_call 3 76 rfl (by kernel_rfl) (by kernel_rfl) (by kernel_rfl) 85 #[.tmp 73, .tmp 75, .const (.int .i64 4)] #[26, 3, 3] (by kernel_rfl) (enters_of Tryz.func85 (by kernel_rfl) rfl) #[u4, .int .i64 G, .int .i64 4] (by kernel_rfl) (rput_any wr.drew B u4 40 4 _ G (.inl HO2.out) HBd.out (by omega) (by omega) (by omega) (by omega) (by omega)) ?_
          rintro e We ⟨ve, rfl, ho, hb⟩
          have HOe := Hid.mk ho
          have HBWe := Hid.mk (HB0.out.trans hb)
          clear ho hb
          have hNWe : NAt b l We := NAt.below (W := wr.drew) HN2.out HBWe.out hbB
          refine ⟨_, rfl, hNWe, ?_⟩
          simp only [List.setIfInBounds_toArray, List.set_cons_zero, List.set_cons_succ]
          refine stepH_call 6 79 rfl (by kernel_rfl) (by kernel_rfl) (by kernel_rfl) 85 #[.tmp 76, .tmp 78, .const (.int .i64 4)] #[26, 3, 3] (by kernel_rfl) (enters_of Tryz.func85 (by kernel_rfl) rfl) #[ve, .int .i64 D, .int .i64 4] (by kernel_rfl) (rput_any We B ve 44 4 _ D (.inl HOe.out) (Nat.le_trans HBd.out HBWe.out.size) (by omega) (by omega) (by omega) (by omega) (by omega)) ?_
          rintro e Wf ⟨vf, rfl, ho, hb⟩
          have HOf := Hid.mk ho
          have HBWf := Hid.mk (HBWe.out.trans hb)
          clear ho hb
          have hNWf : NAt b l Wf := NAt.below (W := wr.drew) HN2.out HBWf.out hbB
          refine ⟨_, rfl, hNWf, ?_⟩
          simp only [List.setIfInBounds_toArray, List.set_cons_zero, List.set_cons_succ]
          refine stepH_call 7 80 rfl (by kernel_rfl) (by kernel_rfl) (by kernel_rfl) 86 #[.tmp 79, .const (.int .i64 64)] #[26, 3] (by kernel_rfl) (enters_of Tryz.func86 (by kernel_rfl) rfl) #[vf, .int .i64 64] (by kernel_rfl) (fill_any Wf B vf 48 64 _ HOf.out (Nat.le_trans HBd.out HBWf.out.size) (by omega) (by omega)) ?_
          rintro e Wg ⟨vg, rfl, ho, hb⟩
          have HOg := Hid.mk ho
          have HBWg := Hid.mk (HBWf.out.trans hb)
          clear ho hb
          have hNWg : NAt b l Wg := NAt.below (W := wr.drew) HN2.out HBWg.out hbB
          refine ⟨_, rfl, hNWg, ?_⟩
          simp only [List.setIfInBounds_toArray, List.set_cons_zero, List.set_cons_succ]
          refine takeH 8 2 (vg) rfl (by kernel_rfl) (by kernel_rfl) (by kernel_rfl) (by kernel_rfl) (fun _ _ _ h => h) (by kernel_rfl) (fun w hw => by kernel_rfl) hNWg ?_
          simp only [List.setIfInBounds_toArray, List.set_cons_zero, List.set_cons_succ]
          refine takeH 9 3 (.bool true) rfl (by kernel_rfl) (by kernel_rfl) (by kernel_rfl) (by kernel_rfl) (fun _ _ _ h => h) (by kernel_rfl) (fun w hw => by kernel_rfl) hNWg ?_
          simp only [List.setIfInBounds_toArray, List.set_cons_zero, List.set_cons_succ]
          refine wpAnyH_done (by kernel_rfl) ?_ _
          have HFIN : Hid (Below b w Wg) := Hid.mk (HB2.out.drew.trans (HBWg.out.mono (by omega)))
          have HOW : Hid (Wg.ownsRow b 5 1 vg 64 (By (inoL l))) := Hid.mk (owns_base (by have h := HOg.out; rwa [HIP.out] at h) (Nat.le_of_lt hbB))
          clear hH HOe HOf HOg HBWe HBWf HBWg hNWe hNWf hNWg HB0 HBd
          go_wp2_with fail
          go_ret2
          exact ⟨HFIN.out, .inr ⟨HD.out, vg, rfl, HOW.out⟩⟩
end Din
end Go.Proofs.YtejnmpnioeamhaaGreat
namespace Go.Proofs.YtejnmpnioeamhaaGreat
open Go Go.Proofs Go.RowKit Go.Shelf
namespace Din
section
variable {w : World} {ops : Array Oper} {rest : List Oper} {o : Oper} {a : Act} {Q : Exit → Act → World → Prop}
set_option maxRecDepth 100000 in
/-- string(b). -/
theorem wpL_conv (x : Operand) (ho : o.op = .convert 26 9 x) (hw : Region.wanted o (yielded ops a.tmps) = true) (ao : Option Addr) (n c : Nat) (xs : List Int) (hx : a.eval x = .slice ao n c) (hB : BAt w ao n xs) (SX : ByteArray) (hS : SX = strOfNums xs) (h : wpList Tryz.prog ops Q rest (a.put o.dst (.string SX)) w) : wpList Tryz.prog ops Q (o :: rest) a w := by
  subst hS
  exact wpList_known hw _ _ (exec_convert ho hx (conv_bytes w ao n c xs hB)) h
set_option maxRecDepth 100000 in
theorem wpL_boxed (x : Operand) (ho : o.op = .box 55 x) (hw : Region.wanted o (yielded ops a.tmps) = true) (l : List Int) (b : Nat) (W1 : World) (hb : b = w.heap.size) (hW : W1 = w.alloc (.cells (Iy l).toArray 55)) (hx : a.eval x = inoV l) (h : wpList Tryz.prog ops Q rest (a.put o.dst (.pointer (some ⟨b, 0, none⟩))) W1) : wpList Tryz.prog ops Q (o :: rest) a w := by
  subst hb hW
  exact wpL_box x ho hw l hx h
end
set_option maxRecDepth 100000 in
theorem rpack_no (w : World) (l : List Int) (hl : l.length = 13) (h : fineL l = false) : Calls Tryz.prog 55 #[inoV l] w fun e w' => e = .returned (.tuple #[.slice none 0 0, .bool false]) ∧ Below w.heap.size w w' := by
  refine (rpack_any w l hl).mono ?_
  rintro e w' ⟨hB, ⟨-, rfl⟩ | ⟨h2, -⟩⟩
  · exact ⟨rfl, hB⟩
  · rw [h] at h2; cases h2
set_option maxRecDepth 100000 in
theorem rpack_yes (w : World) (l : List Int) (hl : l.length = 13) (h : fineL l = true) : Calls Tryz.prog 55 #[inoV l] w fun e w' => ∃ ao c, e = .returned (.tuple #[.slice ao 64 c, .bool true]) ∧ BAt w' ao 64 (inoL l) ∧ Below w.heap.size w w' := by
  refine (rpack_any w l hl).mono ?_
  rintro e w' ⟨hB, ⟨h2, -⟩ | ⟨-, v, rfl, ho⟩⟩
  · rw [h] at h2; cases h2
  · obtain ⟨ao, c, rfl, hb, -⟩ := owns_BAt ho
    exact ⟨ao, c, rfl, hb, hB⟩
theorem _root_.Go.Proofs.YtejnmpnioeamhaaGreat.BAt.nil (W : World) : BAt W none 0 [] := ⟨rfl, fun h => absurd h (Nat.lt_irrefl 0)⟩
theorem _root_.Go.Proofs.YtejnmpnioeamhaaGreat.BAt.below {W W' : World} {ao : Option Addr} {n : Nat} {xs : List Int} (h : BAt W ao n xs) (hB : Below W.heap.size W W') : BAt W' ao n xs := h.only (Only.of_new (fun _ => False) hB) (fun _ _ _ h => h)
end Din
end Go.Proofs.YtejnmpnioeamhaaGreat
namespace Go.Proofs.YtejnmpnioeamhaaGreat
open Go Go.Proofs Go.RowKit Go.Shelf
namespace Din
set_option maxRecDepth 100000 in
theorem exec_strneq {ev : Operand → Value} {oi : Oper} {x y : Operand} {u : TypeId} {s t : ByteArray} {w : World} (c : Bool) (hc : (s.toList == t.toList) = c) (ho : oi.op = .binOp .neq 9 x y u) (hx : ev x = .string s) (hy : ev y = .string t) : (execOp ev oi).run Tryz.prog w = .ok (.value (.bool (!c))) w := by
  subst hc
  unfold execOp
  rw [ho]
  simp only [hx, hy]
  go_simp
set_option maxRecDepth 100000 in
theorem exec_streql {ev : Operand → Value} {oi : Oper} {x y : Operand} {u : TypeId} {s t : ByteArray} {w : World} (c : Bool) (hc : (s.toList == t.toList) = c) (ho : oi.op = .binOp .eql 9 x y u) (hx : ev x = .string s) (hy : ev y = .string t) : (execOp ev oi).run Tryz.prog w = .ok (.value (.bool c)) w := by
  subst hc
  unfold execOp
  rw [ho]
  simp only [hx, hy]
  go_simp
/-- The inode while its direct ones are read. -/
def partL (l : List Int) (k : Nat) : List Int := l.take (3 + k) ++ (zeros (8 - k) ++ l.drop 11)
set_option maxRecDepth 100000 in
theorem part_set (l : List Int) (hl : l.length = 13) (k : Nat) (hk : k < 8) : (partL l k).set (3 + k) (l.getD (3 + k) 0) = partL l (k + 1) := by
  obtain ⟨a0, a1, a2, a3, a4, a5, a6, a7, a8, a9, a10, a11, a12, rfl⟩ := list13 l hl
  match k, hk with
  | 0, _ => rfl
  | 1, _ => rfl
  | 2, _ => rfl
  | 3, _ => rfl
  | 4, _ => rfl
  | 5, _ => rfl
  | 6, _ => rfl
  | 7, _ => rfl
theorem part_length (l : List Int) (hl : l.length = 13) (k : Nat) (hk : k ≤ 8) : (partL l k).length = 13 := by
  simp [partL, zeros_length, hl]
  omega
theorem part_zero (l : List Int) (hl : l.length = 13) : partL l 0 = [l.getD 0 0, l.getD 1 0, l.getD 2 0, 0, 0, 0, 0, 0, 0, 0, 0, l.getD 11 0, l.getD 12 0] := by
  obtain ⟨a0, a1, a2, a3, a4, a5, a6, a7, a8, a9, a10, a11, a12, rfl⟩ := list13 l hl
  rfl
theorem part_all (l : List Int) (hl : l.length = 13) : partL l 8 = l := by
  obtain ⟨a0, a1, a2, a3, a4, a5, a6, a7, a8, a9, a10, a11, a12, rfl⟩ := list13 l hl
  rfl
set_option maxRecDepth 100000 in
theorem ofB_half (xs : List Int) (h : xs.length = 64) (i : Nat) (hi : i < 2) : (ofB xs).getD i 0 = numL ((xs.drop (2 * i)).take 2) := by
  have h0 := allL_get 2 (xs.take 4) i (by simp [h]; omega)
  have e : (ofB xs).getD i 0 = (allL 2 (xs.take 4)).getD i 0 := by
    unfold ofB
    simp only [List.getD]
    rw [List.getElem?_append_left (by rw [allL_length]; simp [h]; omega)]
  rw [e, h0, List.drop_take, List.take_take]
  congr 2
  omega
set_option maxRecDepth 100000 in
theorem ofB_word (xs : List Int) (h : xs.length = 64) (i : Nat) (hi : i < 11) : (ofB xs).getD (2 + i) 0 = numL ((xs.drop (4 + 4 * i)).take 4) := by
  have h0 := allL_get 4 ((xs.drop 4).take 44) i (by simp [h]; omega)
  have e : (ofB xs).getD (2 + i) 0 = (allL 4 ((xs.drop 4).take 44)).getD i 0 := by
    unfold ofB
    have e2 : (allL 2 (xs.take 4)).length = 2 := by rw [allL_length]; simp [h]
    simp only [List.getD]
    rw [List.getElem?_append_right (by rw [e2]; omega), e2, Nat.add_sub_cancel_left]
  rw [e, h0, List.drop_take, List.take_take, List.drop_drop]
  congr 2
  omega
theorem NAt.set {b : Nat} {l : List Int} {W : World} (h : NAt b l W) (i : Nat) (y : Int) : NAt b (l.set i y) (W.setCell ⟨b, i, none⟩ (.int .i64 y)) := by
  unfold NAt
  rw [blk_set h, Iy_setArr]
section
variable {w : World} {ops : Array Oper} {rest : List Oper} {o : Oper} {a : Act} {Q : Exit → Act → World → Prop}
set_option maxRecDepth 100000 in
theorem wpL_strneq (x y : Operand) (u : TypeId) (ho : o.op = .binOp .neq 9 x y u) (hw : Region.wanted o (yielded ops a.tmps) = true) (s t : ByteArray) (c : Bool) (hc : (s.toList == t.toList) = c) (hx : a.eval x = .string s) (hy : a.eval y = .string t) (h : wpList Tryz.prog ops Q rest (a.put o.dst (.bool (!c))) w) : wpList Tryz.prog ops Q (o :: rest) a w :=
  wpList_known hw _ _ (exec_strneq c hc ho hx hy) h
set_option maxRecDepth 100000 in
theorem wpL_streql (x y : Operand) (u : TypeId) (ho : o.op = .binOp .eql 9 x y u) (hw : Region.wanted o (yielded ops a.tmps) = true) (s t : ByteArray) (c : Bool) (hc : (s.toList == t.toList) = c) (hx : a.eval x = .string s) (hy : a.eval y = .string t) (h : wpList Tryz.prog ops Q rest (a.put o.dst (.bool c)) w) : wpList Tryz.prog ops Q (o :: rest) a w :=
  wpList_known hw _ _ (exec_streql c hc ho hx hy) h
end
set_option maxRecDepth 100000 in
theorem rread_short (w : World) (ao : Option Addr) (n c : Nat) (hn : n ≠ 64) :
    Calls Tryz.prog 40 #[.slice ao n c] w fun e w' => e = .returned (.tuple #[inoV (zeros 13), .bool false]) ∧ Below w.heap.size w w' := by
  have h1 : ((n : Int) == 64) = false := by simp; omega
  have h2 : ¬ ((n : Int) = 64) := by omega
  obtain ⟨X, b, hrX, hX, hXB, hXb⟩ := alloc24_any w
  obtain ⟨Y, hrY, hY, hYo⟩ := store24_run (m := zeros 13) hX (zeros_length 13) (zeros_length 13)
  have HRX := Hid.mk hrX
  have HRY := Hid.mk hrY
  have HY := Hid.mk hY
  have HB := Hid.mk (hXB.trans (hYo.below hXB.size (fun k e => by rw [e]; exact hXb)))
  clear hrX hX hXB hrY hY hYo hXb
  go_enter Tryz.func40, Tryz.ntmps40
  go_wp2_with (first
    | (refine wpL_alloc rfl rfl _ X HRX.out ?_)
    | (refine wpL_build rfl rfl ?_)
    | (refine wpL_store (.tmp 2) (.tmp 11) rfl rfl _ _ Y rfl rfl HRY.out ?_))
  exact bodyPost_ret (results_cell2 Tryz.results40 rfl HY.out (zeros_length 13)) rfl ⟨rfl, HB.out⟩
set_option maxRecDepth 100000 in
set_option maxHeartbeats 4000000 in
theorem rread_full (w : World) (a : Addr) (c : Nat) (xs : List Int) (h : BAt w (some a) 64 xs) (hx : ∀ x ∈ xs, 0 ≤ x ∧ x ≤ 255) :
    Calls Tryz.prog 40 #[.slice (some a) 64 c] w fun e w' => e = .returned (.tuple #[inoV (rdL xs), .bool (rdB xs)]) ∧ Below w.heap.size w w' := by
  have hlen := h.1
  have HX := Hid.mk hx
  obtain ⟨W1, b, hrX, hX, hXB, hXb⟩ := alloc24_any w
  obtain ⟨B, hBe⟩ : ∃ B, B = w.heap.size := ⟨_, rfl⟩
  rw [← hBe] at hXB hXb
  have HBA : Hid (∀ W, Below B w W → BAt W (some a) 64 xs) := Hid.mk (fun W hB => h.only (Only.of_new (fun _ => False) (by rw [hBe] at hB; exact hB)) (fun _ _ _ h => h))
  rw [← hBe]
  have HBs : Hid (B ≤ w.heap.size) := Hid.mk (by omega)
  clear h hx hBe
  have HNUM : Hid (∀ W q K, 0 < K → K ≤ 4 → q + K ≤ 64 → Below B w W → Calls Tryz.prog 74 #[.slice (some a) 64 c, .int .i64 (q : Nat), .int .i64 (K : Nat)] W fun e w' => e = .returned (.int .i64 (numL ((xs.drop q).take K))) ∧ w' = W) := Hid.mk (fun W q K h1 h2 h3 hB => rnum_any W a 64 c q K h1 h2 xs (HBA.out W hB) HX.out h3 (by omega))
  have hol := ofB_length xs hlen
  have HRD : Hid (rdB xs = (fineL (ofB xs) && eqB xs (inoL (ofB xs)))) := Hid.mk (by unfold rdB; rw [hlen]; simp)
  have hw0 := ofB_half xs hlen 0 (by omega)
  have hw1 := ofB_half xs hlen 1 (by omega)
  have hww := ofB_word xs hlen
  obtain ⟨l, hle⟩ : ∃ l, l = ofB xs := ⟨_, rfl⟩
  rw [← hle] at hol HRD hw0 hw1 hww
  have N0 : Hid (Calls Tryz.prog 74 #[.slice (some a) 64 c, .int .i64 0, .int .i64 2] W1 fun e w' => e = .returned (.int .i64 (l.getD 0 0)) ∧ w' = W1) := Hid.mk (by rw [hw0]; exact HNUM.out W1 0 2 (by omega) (by omega) (by omega) hXB)
  have N1 : Hid (Calls Tryz.prog 74 #[.slice (some a) 64 c, .int .i64 2, .int .i64 2] W1 fun e w' => e = .returned (.int .i64 (l.getD 1 0)) ∧ w' = W1) := Hid.mk (by rw [hw1]; exact HNUM.out W1 2 2 (by omega) (by omega) (by omega) hXB)
  have N2 : Hid (Calls Tryz.prog 74 #[.slice (some a) 64 c, .int .i64 4, .int .i64 4] W1 fun e w' => e = .returned (.int .i64 (l.getD 2 0)) ∧ w' = W1) := Hid.mk (by rw [hww 0 (by omega)]; exact HNUM.out W1 4 4 (by omega) (by omega) (by omega) hXB)
  have N3 : Hid (Calls Tryz.prog 74 #[.slice (some a) 64 c, .int .i64 40, .int .i64 4] W1 fun e w' => e = .returned (.int .i64 (l.getD 11 0)) ∧ w' = W1) := Hid.mk (by rw [hww 9 (by omega)]; exact HNUM.out W1 40 4 (by omega) (by omega) (by omega) hXB)
  have N4 : Hid (Calls Tryz.prog 74 #[.slice (some a) 64 c, .int .i64 44, .int .i64 4] W1 fun e w' => e = .returned (.int .i64 (l.getD 12 0)) ∧ w' = W1) := Hid.mk (by rw [hww 10 (by omega)]; exact HNUM.out W1 44 4 (by omega) (by omega) (by omega) hXB)
  have ND : Hid (∀ W k, k < 8 → Below B w W → Calls Tryz.prog 74 #[.slice (some a) 64 c, .int .i64 ((8 + 4 * k : Nat) : Int), .int .i64 4] W fun e w' => e = .returned (.int .i64 (l.getD (3 + k) 0)) ∧ w' = W) := Hid.mk (fun W k hk hB => by
    have e1 := hww (1 + k) (by omega)
    rw [show 2 + (1 + k) = 3 + k by omega, show 4 + 4 * (1 + k) = 8 + 4 * k by omega] at e1
    rw [e1]
    exact HNUM.out W (8 + 4 * k) 4 (by omega) (by omega) (by omega) hB)
  obtain ⟨X2, Y, d, hr1, hr2, hD, hBY, hd⟩ := var24 W1 (partL l 0) (part_length l hol 0 (by omega))
  rw [part_zero l hol] at hr2
  have HRX := Hid.mk hrX
  have HR1 := Hid.mk hr1
  have HD0 := Hid.mk hD
  have HN0 := Hid.mk (hX.below hBY hX.lt)
  have HB0 := Hid.mk (hXB.trans (hBY.mono (Nat.le_trans HBs.out hXB.size)))
  have HBb := Hid.mk hXb
  have hbd : b < d := Nat.lt_of_lt_of_le hX.lt hd
  have HOL := Hid.mk hol
  have HPS := Hid.mk (part_set l hol)
  have HPA := Hid.mk (part_all l hol)
  have HPL := Hid.mk (part_length l hol)
  have HLE := Hid.mk hle
  clear hw0 hw1 hww hrX hr1 hD hBY hd hX hXB hXb hol hle HNUM
  generalize l.getD 0 0 = k0 at *
  generalize l.getD 1 0 = k1 at *
  generalize l.getD 2 0 = k2 at *
  generalize l.getD 11 0 = k11 at *
  generalize l.getD 12 0 = k12 at *
  have HR2 := Hid.mk hr2
  clear hr2
  go_enter Tryz.func40, Tryz.ntmps40
  go_wp2_with (first
    | (have hA := HRX.out; refine wpL_alloc rfl rfl _ W1 hA ?_; clear hA HRX)
    | (go_at_call 74; have hN := N0.out; refine hN.mono ?_; clear hN N0; rintro e w3 ⟨rfl, hw⟩; subst w3)
    | (go_at_call 74; have hN := N1.out; refine hN.mono ?_; clear hN N1; rintro e w3 ⟨rfl, hw⟩; subst w3)
    | (go_at_call 74; have hN := N2.out; refine hN.mono ?_; clear hN N2; rintro e w3 ⟨rfl, hw⟩; subst w3)
    | (go_at_call 74; have hN := N3.out; refine hN.mono ?_; clear hN N3; rintro e w3 ⟨rfl, hw⟩; subst w3)
    | (go_at_call 74; have hN := N4.out; refine hN.mono ?_; clear hN N4; rintro e w3 ⟨rfl, hw⟩; subst w3)
    | (refine wpL_alloc rfl rfl _ X2 HR1.out ?_)
    | (refine wpL_store (.tmp 4) (.tmp 22) rfl rfl _ _ Y rfl rfl HR2.out ?_))
  go_loopw [5] (fun i wr => ∃ k : Nat, k ≤ 8 ∧ i = .int .i64 k ∧ NAt d (partL l k) wr ∧ NAt b (zeros 13) wr ∧ Below B w wr) (fun i _ => 8 - (intOf i).toNat)
  case atStart => exact ⟨0, by omega, rfl, HD0.out, HN0.out, HB0.out⟩
  case round =>
    obtain ⟨k, hk, rfl, hD, hN, hB⟩ := hrel
    have HD := Hid.mk hD
    have HN := Hid.mk hN
    have HB := Hid.mk hB
    clear hD hN hB HD0 HN0 HB0
    by_cases hlt : k < 8
    · have hc := HD.out.cell (3 + k) (by rw [HPL.out k hk]; omega)
      have hf := blk_free HD.out (3 + k)
      generalize (partL l k).getD (3 + k) 0 = old at hc
      have HC := Hid.mk (ND.out wr k hlt HB.out)
      have HS := Hid.mk (HPS.out k hlt)
      obtain ⟨q, hq⟩ : ∃ q, q = 8 + 4 * k := ⟨_, rfl⟩
      rw [← hq] at HC
      have hqi : (8 : Int) + 4 * (k : Int) = (q : Int) := by omega
      have hqb : q ≤ 64 := by omega
      clear hq
      generalize l.getD (3 + k) 0 = y at *
      go_wp2_with (go_at_call 74; refine HC.out.mono ?_; rintro e w3 ⟨rfl, hw⟩; subst w3)
      go_roundw
      case rel => exact ⟨k + 1, by omega, by go_num, by rw [← HS.out]; exact HD.out.set (3 + k) y, HN.out.only ((Only.refl (fun k => k = d) wr).setCell (p := ⟨d, 3 + k, none⟩) (.inl rfl) _) (by omega), HB.out.setCell (p := ⟨d, 3 + k, none⟩) (by have := HBb.out; show B ≤ d; omega) _⟩
      case measure => simp [intOf]; omega
    · have hge : (8 : Int) ≤ k := by omega
      obtain rfl : k = 8 := by omega
      rw [HPA.out] at HD
      have HBX := Hid.mk (HBA.out wr HB.out)
      have HFIN : Hid (∀ W5 Y : World, Below wr.heap.size wr W5 → Only (fun k => k = b) W5 Y → Below B w Y) := Hid.mk (fun W5 Y h1 h2 => (HB.out.trans (h1.mono (Nat.le_trans HBs.out HB.out.size))).trans (h2.below (Nat.le_trans (Nat.le_trans HBs.out HB.out.size) h1.size) (fun k e => by rw [e]; exact HBb.out)))
      obtain ⟨SX, hSX⟩ : ∃ SX, SX = strOfNums xs := ⟨_, rfl⟩
      obtain ⟨SY, hSY⟩ : ∃ SY, SY = strOfNums (inoL l) := ⟨_, rfl⟩
      have HSX := Hid.mk hSX
      have HSY := Hid.mk hSY
      have HSE : Hid ((SY.toList == SX.toList) = eqB (inoL l) xs) := Hid.mk (by rw [hSX, hSY]; exact str_eqB _ _ (inoL_bound l) HX.out)
      clear hSX hSY HBA ND HPS HPL HPA HR1 HR2
      cases hfi : fineL l with
      | false =>
        have HP := Hid.mk (rpack_no wr l HOL.out hfi)
        have hrb : rdB xs = false := by rw [HRD.out, hfi]; rfl
        have HR := Hid.mk (rd_no hrb)
        have HRB := Hid.mk hrb
        clear hfi HRD hrb
        go_wp2_with (first
          | (refine wpL_load (.tmp 4) rfl rfl d l rfl HD.out HOL.out ?_)
          | (go_at_call 55; refine HP.out.mono ?_; rintro e w5 ⟨rfl, hB5⟩; obtain ⟨Y5, hrY, hY, hYo⟩ := store24_run (m := zeros 13) (HN.out.below hB5 HN.out.lt) (zeros_length 13) (zeros_length 13); have HB5 := Hid.mk (HFIN.out _ _ hB5 hYo); have HY := Hid.mk hY; have HRY := Hid.mk hrY; clear hB5 hrY hY hYo)
          | (refine wpL_build rfl rfl ?_)
          | (refine wpL_store (.tmp 2) (.tmp 49) rfl rfl _ _ Y5 rfl rfl HRY.out ?_))
        exact bodyPost_ret (results_cell2 Tryz.results40 rfl HY.out (zeros_length 13)) rfl ⟨by rw [HR.out.1, HRB.out]; rfl, HB5.out⟩
      | true =>
        have HP := Hid.mk (rpack_yes wr l HOL.out hfi)
        cases heq : eqB xs (inoL l) with
        | false =>
          have hrb : rdB xs = false := by rw [HRD.out, hfi, heq]; rfl
          have HR := Hid.mk (rd_no hrb)
          have HRB := Hid.mk hrb
          have HS2 : Hid ((SY.toList == SX.toList) = false) := Hid.mk (by rw [HSE.out]; unfold eqB at heq ⊢; simp at heq ⊢; exact fun e => heq e.symm)
          clear hfi HRD hrb heq
          go_wp2_with (first
            | (refine wpL_load (.tmp 4) rfl rfl d l rfl HD.out HOL.out ?_)
            | (go_at_call 55; refine HP.out.mono ?_; rintro e w5 ⟨ao, vc, rfl, hba, hB5⟩; obtain ⟨Y5, hrY, hY, hYo⟩ := store24_run (m := zeros 13) (HN.out.below hB5 HN.out.lt) (zeros_length 13) (zeros_length 13); have HA5 := Hid.mk hba; have HX5 := Hid.mk (HBX.out.below hB5); have HB5 := Hid.mk (HFIN.out _ _ hB5 hYo); have HY := Hid.mk hY; have HRY := Hid.mk hrY; clear hB5 hrY hY hYo hba)
            | (refine wpL_conv (.tmp 43) rfl rfl ao 64 vc (inoL l) rfl HA5.out SY HSY.out ?_)
            | (refine wpL_conv (.tmp 45) rfl rfl (some a) 64 c xs rfl HX5.out SX HSX.out ?_)
            | (refine wpL_strneq (.tmp 44) (.tmp 46) 9 rfl rfl SY SX false HS2.out rfl rfl ?_)
            | (refine wpL_build rfl rfl ?_)
            | (refine wpL_store (.tmp 2) (.tmp 49) rfl rfl _ _ Y5 rfl rfl HRY.out ?_))
          exact bodyPost_ret (results_cell2 Tryz.results40 rfl HY.out (zeros_length 13)) rfl ⟨by rw [HR.out.1, HRB.out]; rfl, HB5.out⟩
        | true =>
          have hrb : rdB xs = true := by rw [HRD.out, hfi, heq]; rfl
          have HR := Hid.mk (rd_yes hrb)
          have HRB := Hid.mk hrb
          have HS2 : Hid ((SY.toList == SX.toList) = true) := Hid.mk (by rw [HSE.out]; unfold eqB at heq ⊢; simp at heq ⊢; exact heq.symm)
          clear hfi HRD hrb heq
          go_wp2_with (first
            | (have hA := HD.out; refine wpL_load (.tmp 4) rfl rfl d l rfl hA HOL.out ?_; clear hA)
            | (go_at_call 55; refine HP.out.mono ?_; rintro e w5 ⟨ao, vc, rfl, hba, hB5⟩; obtain ⟨Y5, hrY, hY, hYo⟩ := store24_run (m := l) (HN.out.below hB5 HN.out.lt) (zeros_length 13) HOL.out; have HA5 := Hid.mk hba; have HX5 := Hid.mk (HBX.out.below hB5); have HD5 := Hid.mk (HD.out.below hB5 HD.out.lt); clear HD; have HB5 := Hid.mk (HFIN.out _ _ hB5 hYo); have HY := Hid.mk hY; have HRY := Hid.mk hrY; clear hB5 hrY hY hYo hba)
            | (refine wpL_conv (.tmp 43) rfl rfl ao 64 vc (inoL l) rfl HA5.out SY HSY.out ?_)
            | (refine wpL_conv (.tmp 45) rfl rfl (some a) 64 c xs rfl HX5.out SX HSX.out ?_)
            | (refine wpL_strneq (.tmp 44) (.tmp 46) 9 rfl rfl SY SX true HS2.out rfl rfl ?_)
            | (refine wpL_load (.tmp 4) rfl rfl d l rfl HD5.out HOL.out ?_)
            | (refine wpL_store (.tmp 2) (.tmp 50) rfl rfl _ _ Y5 rfl rfl HRY.out ?_))
          exact bodyPost_ret (results_cell2 Tryz.results40 rfl HY.out HOL.out) rfl ⟨by rw [HR.out.1, HRB.out, HLE.out]; rfl, HB5.out⟩
set_option maxRecDepth 100000 in
theorem rread_any (w : World) (ao : Option Addr) (n c : Nat) (xs : List Int) (h : BAt w ao n xs) (hx : ∀ x ∈ xs, 0 ≤ x ∧ x ≤ 255) :
    Calls Tryz.prog 40 #[.slice ao n c] w fun e w' => e = .returned (.tuple #[inoV (rdL xs), .bool (rdB xs)]) ∧ Below w.heap.size w w' := by
  by_cases hn : n = 64
  · subst hn
    obtain ⟨a, rfl, -⟩ := h.at 0 (by omega)
    exact rread_full w a c xs h hx
  · have hb : rdB xs = false := by unfold rdB; rw [h.1, decide_eq_false hn]; rfl
    rw [(rd_no hb).1, hb]
    exact rread_short w ao n c hn
end Din
end Go.Proofs.YtejnmpnioeamhaaGreat
