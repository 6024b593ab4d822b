/-
  A node in memory, and rows of nodes.
-/
import Derived.Test.YtejnmpnioeamhaaGreatWhImg2
namespace Go.Proofs.YtejnmpnioeamhaaGreat
open Go Go.Proofs Go.RowKit Go.Shelf
namespace Mk
open Ent (EAt Ey entV noS noE)
/-- The root's node, with these slots. -/
def ndC (s : Value) : List Value := [.int .i64 1, .int .i64 2, .int .i64 2, .int .i64 1024, .slice none 0 0, s]
def ndV (s : Value) : Value := .agg (ndC s).toArray
def ndZ : List Value := [.int .i64 0, .int .i64 0, .int .i64 0, .int .i64 0, .slice none 0 0, .slice none 0 0]
def NdAt (b : Nat) (l : List Value) (W : World) : Prop := W.heap[b]? = some (.cells l.toArray 41 (0, 0))
theorem infoN : (Tryz.prog.info? 41).map (fun i => (i.zero, i.size, i.bytes)) = some (some (.agg ndZ.toArray), 6, 80) := by kernel_rfl
theorem infoNp : ∃ i0, Tryz.prog.info? 41 = some i0 ∧ i0.zero = some (.agg ndZ.toArray) ∧ i0.size = 6 ∧ i0.bytes = 80 := by
  obtain ⟨i0, hi, hz0, hz1, hz2⟩ := info_parts infoN
  exact ⟨i0, hi, hz0, hz1, hz2⟩
set_option maxRecDepth 100000 in
theorem nd_alloc (W : World) : (Instr.alloc 41 true (.tuple #[])).run Tryz.prog W = .ok (.pointer (some ⟨W.heap.size, 0, none⟩)) (W.alloc (.cells ndZ.toArray 41)) := by
  obtain ⟨i0, hi, hz0, hz1, -⟩ := infoNp
  simp [Instr.alloc, zeroValue, typeInfo, hi, hz0, newVar, newRow, Value.cells]
set_option maxRecDepth 100000 in
theorem nd_store {b : Nat} {l m : List Value} {W : World} (hN : NdAt b l W) (hl : l.length = 6) (hm : m.length = 6) (h1 : ∀ u ∈ m, u.oneCell' = true) : ∃ W', (Instr.storeAt 41 (.pointer (some ⟨b, 0, none⟩)) (.agg m.toArray)).run Tryz.prog W = .ok () W' ∧ NdAt b m W' ∧ Only (fun k => k = b) W W' := by
  have hst := run_storeCells_at Tryz.prog b 0 41 m 0 l.toArray W hN (by simp [hl, hm]) h1
  have e : (l.toArray.toList.take (0 + 0) ++ m ++ l.toArray.toList.drop (0 + 0 + m.length)).toArray = m.toArray := by
    rw [List.drop_of_length_le (by simp [hl, hm])]
    simp
  rw [e] at hst
  refine ⟨_, ?_, setRow_heap W b _ _ 41 _ hN, (Only.refl (fun k => k = b) W).setRow (.inl rfl) _⟩
  · simp [Instr.storeAt, Instr.sureAddr, storeVar, Value.cells, hm]
    simpa using hst
theorem nd_load {b : Nat} {l : List Value} {W : World} (hN : NdAt b l W) (hl : l.length = 6) : (Instr.loadAt 41 (.pointer (some ⟨b, 0, none⟩))).run Tryz.prog W = .ok (.agg l.toArray) W := by
  have h := run_loadCells_list (P := Tryz.prog) W ⟨b, 0, none⟩ l (fun j v hj => by
    rw [add_at, Nat.zero_add, blk_cell hN]
    simpa using hj)
  rw [hl] at h
  simp [Instr.loadAt, Instr.sureAddr, loadVar, h]
set_option maxRecDepth 100000 in
theorem nd_one {ev : Operand → Value} {oi : Oper} {x : Operand} {s : Value} {W : World} (ho : oi.op = .buildSlice 34 1 #[(0, x)]) (hx : ev x = ndV s) : (execOp ev oi).run Tryz.prog W = .ok (.value (.slice (some ⟨W.heap.size, 0, none⟩) 1 1)) (W.alloc (.cells (ndC s).toArray 41)) := by
  obtain ⟨i0, hi, hz0, hz1, hz2⟩ := infoNp
  unfold execOp
  rw [ho]
  simp only [hx, List.map_toArray, List.map_cons, List.map_nil]
  simp [Instr.buildSlice, run_underlying Tryz.underlying34, zeroValue, typeInfo, hi, hz0, hz1, newRow, ndV, Value.cells, ndC, ndZ, Instr.fill, sizeOf]
  rw [show Array.range 6 = #[0, 1, 2, 3, 4, 5] from by decide]
  simp
theorem nd_append (W : World) (s : Value) (hs : s.oneCell' = true) :
    ∃ g c W', (Builtin.append_ #[34, 34] 34 #[.slice none 0 0, .slice (some ⟨W.heap.size, 0, none⟩) 1 1]).run Tryz.prog (W.alloc (.cells (ndC s).toArray 41)) = .ok (.slice (some ⟨g, 0, none⟩) 1 c) W' ∧ 1 ≤ c ∧ W'.cell? ⟨g, 1, none⟩ = some (.int .i64 2) ∧ W'.cell? ⟨g, 2, none⟩ = some (.int .i64 2) ∧ W'.cell? ⟨g, 5, none⟩ = some s ∧ Below W.heap.size W W' := by
  obtain ⟨i0, hi, hz0, hz1, hz2⟩ := infoNp
  have hnew := blk_new W (.cells (ndC s).toArray 41)
  obtain ⟨v3, W3, hr, hown3, hg3, _⟩ := run_append_own (P := Tryz.prog) (W.alloc (.cells (ndC s).toArray 41)) W.heap.size 34 34 41 i0 (.agg ndZ.toArray) 6 80 Tryz.underlying34 hi hz0 hz1 hz2 rfl (by decide) (.slice none 0 0) 0 [] (World.ownsRow_nil _ _ _ _) ⟨W.heap.size, 0, none⟩ 1 1 (ndC s) rfl (fun j u hj => by
    rw [add_at, Nat.zero_add, blk_cell hnew]
    simpa using hj) (fun u hu => by
      simp [ndC] at hu
      rcases hu with rfl | rfl | rfl | rfl | rfl <;> first | rfl | exact hs) (by unfold maxLen; omega) (by omega) (by simp)
  obtain ⟨h1, h2⟩ := hown3
  rcases h2 with ⟨-, h3⟩ | ⟨g, cap, cur, rfl, hgb, hh, hnc, hm, hsz, ht⟩
  · omega
  · have get : ∀ j, j < 6 → W3.cell? ⟨g, j, none⟩ = (ndC s)[j]? := fun j hj => by
      rw [blk_cell hh, ← Array.getElem?_toList]
      have : (cur.toList.take ((0 + 1) * 6))[j]? = (([] : List Value) ++ ndC s)[j]? := by rw [ht]
      rw [List.getElem?_take, if_pos (by omega)] at this
      simpa using this
    refine ⟨g, cap, W3, by simpa using hr, by omega, get 1 (by omega), get 2 (by omega), get 5 (by omega), ?_⟩
    exact ((Below.refl _ W).alloc (Nat.le_refl _) _).grown hg3 (by simp) (fun k e => by simp [Value.ownBlock] at e)
/-- append(nil, l...) of thirty entries. -/
theorem ents_append (W : World) (a : Addr) (c : Nat) (L : List (Int × ByteArray)) (h : EAt W (some a) 30 L) :
    ∃ ao c' W', (Builtin.append_ #[39, 39] 39 #[.slice none 0 0, .slice (some a) 30 c]).run Tryz.prog W = .ok (.slice ao 30 c') W' ∧ Below W.heap.size W W' := by
  obtain ⟨i0, hi, hz0, hz1, hz2⟩ := Ent.info26p
  obtain ⟨a', e, hlt, hc⟩ := h.2 (by omega)
  cases e
  have hl : L.length = 30 := h.1
  obtain ⟨v3, W3, hr, hown3, hg3, _⟩ := run_append_own (P := Tryz.prog) W W.heap.size 39 39 84 i0 (entV 0 noS) 2 24 Tryz.underlying39 hi hz0 hz1 hz2 rfl (by decide) (.slice none 0 0) 0 [] (World.ownsRow_nil _ _ _ _) a 30 c (Ey L) (by rw [Ent.Ey_length, hl]) (fun j u hj => by
    have hjl := (List.getElem?_eq_some_iff.1 hj).1
    rw [Ent.Ey_length, hl] at hjl
    obtain ⟨k, hk | hk⟩ : ∃ k, j = k * 2 ∨ j = k * 2 + 1 := ⟨j / 2, by omega⟩
    · subst hk
      rw [(Ent.Ey_get L k (by omega)).1] at hj
      rw [(hc k (by omega)).1]; exact hj
    · subst hk
      rw [(Ent.Ey_get L k (by omega)).2] at hj
      rw [(hc k (by omega)).2]; exact hj) (Ent.Ey_one L) (by unfold maxLen; omega) (by omega) (Nat.le_refl _)
  have hb := (Below.refl W.heap.size W).grown hg3 (Nat.le_refl _) (fun k e => by simp [Value.ownBlock] at e)
  obtain ⟨ao, c', rfl, -⟩ := Ent.owns_EAt (L := [] ++ L) (by simpa [Ey] using hown3)
  exact ⟨ao, c', W3, by simpa using hr, hb⟩
set_option maxRecDepth 100000 in
/-- l[2:] of thirty-two entries. -/
theorem exec_from2 {ev : Operand → Value} {oi : Oper} {x l : Operand} {a : Addr} {c : Nat} {W : World} (ho : oi.op = .slice 39 x (some l) none none) (hx : ev x = .slice (some a) 32 c) (hl : ev l = .int .i64 2) :
    (execOp ev oi).run Tryz.prog W = .ok (.value (.slice (some (if c = 2 then a else a.add 4)) 30 (c - 2))) W := by
  unfold execOp
  rw [ho]
  simp only [hx]
  go_simp
  split <;> rfl
theorem from2_at {W : World} {a : Addr} {L : List (Int × ByteArray)} (h : EAt W (some a) 32 L) (c : Nat) : ∃ M, EAt W (some (if c = 2 then a else a.add 4)) 30 M := by
  obtain ⟨a', e, hlt, hc⟩ := h.2 (by omega)
  cases e
  have hl : L.length = 32 := h.1
  by_cases h2 : c = 2
  · rw [if_pos h2]
    refine ⟨L.take 30, by simp [hl], fun _ => ⟨a, rfl, hlt, fun k hk => ?_⟩⟩
    have e : (L.take 30).getD k noE = L.getD k noE := by simp [List.getD, hk]
    rw [e]
    exact hc k (by omega)
  · rw [if_neg h2]
    refine ⟨L.drop 2, by simp [hl], fun _ => ⟨a.add 4, rfl, by rw [add_block]; exact hlt, fun k hk => ?_⟩⟩
    have e : (L.drop 2).getD k noE = L.getD (k + 2) noE := by simp [List.getD, List.getElem?_drop, Nat.add_comm]
    rw [e, Ent.add_add, Ent.add_add, show 4 + k * 2 = (k + 2) * 2 by omega, show 4 + (k * 2 + 1) = (k + 2) * 2 + 1 by omega]
    exact hc (k + 2) (by omega)
end Mk
end Go.Proofs.YtejnmpnioeamhaaGreat
