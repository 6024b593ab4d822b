/-
  Rows of nodes of one's own.
-/
import Derived.Test.YtbahbhaoimabdaaWkPaths
namespace Go.Proofs.Ytbahbhaoimabdaa
open Go Go.Proofs Go.RowKit Go.Shelf

/-- A node as cells. -/
def noC (x : NoV) : List Value := [.int .i64 x.ino, .int .i64 x.kind, .int .i64 x.links, .int .i64 x.size, .slice x.bo x.bn x.bc, .slice x.so x.sn x.sc]
def Ny (L : List NoV) : List Value := L.flatMap noC
def noZ : NoV := ⟨0, 0, 0, 0, none, 0, 0, fun _ => ⟨0, none, 0, 0, []⟩, none, 0, 0, fun _ => ⟨0, ⟨#[]⟩⟩⟩
theorem Ny_length (L : List NoV) : (Ny L).length = L.length * 6 := by
  induction L with
  | nil => rfl
  | cons x L ih =>
    have : Ny (x :: L) = noC x ++ Ny L := rfl
    rw [this, List.length_append, ih, List.length_cons, Nat.add_mul, Nat.add_comm]
    rfl
theorem Ny_append (L M : List NoV) : Ny (L ++ M) = Ny L ++ Ny M := by simp [Ny]
theorem Ny_get (L : List NoV) (j i : Nat) (hj : j < L.length) (hi : i < 6) : (Ny L)[j * 6 + i]? = (noC (L.getD j noZ))[i]? := by
  induction L generalizing j with
  | nil => cases hj
  | cons x L ih =>
    have e : Ny (x :: L) = noC x ++ Ny L := rfl
    have hl : (noC x).length = 6 := rfl
    rw [e]
    cases j with
    | zero =>
      rw [List.getElem?_append_left (by omega)]
      simp
    | succ j =>
      rw [List.getElem?_append_right (by omega), hl, show (j + 1) * 6 + i - 6 = j * 6 + i by omega, ih j (by simpa using hj)]
      simp
theorem noC_one (x : NoV) : ∀ u ∈ noC x, u.oneCell' = true := by
  intro u hu
  simp only [noC, List.mem_cons, List.not_mem_nil, or_false] at hu
  rcases hu with rfl | rfl | rfl | rfl | rfl | rfl <;> rfl
theorem infoN : (Try.prog.info? 39).map (fun i => (i.zero, i.size, i.bytes)) = some (some (NoV.val noZ), 6, 80) := by kernel_rfl
/-- A new row of one node. -/
theorem exec_oneN {ev : Operand → Value} {oi : Oper} {x : Operand} {p : NoV} {W : World} (ho : oi.op = .buildSlice 22 1 #[(0, x)]) (hx : ev x = p.val) : (execOp ev oi).run Try.prog W = .ok (.value (.slice (some ⟨W.heap.size, 0, none⟩) 1 1)) (W.alloc (.cells (noC p).toArray 39)) := by
  obtain ⟨i0, hi, hz0, hz1, hz2⟩ := info_parts infoN
  unfold execOp
  rw [ho]
  simp only [hx, List.map_toArray, List.map_cons, List.map_nil]
  simp [Instr.buildSlice, run_underlying Try.underlying22, zeroValue, typeInfo, hi, hz0, hz1, newRow, NoV.val, noZ, noC, Value.cells, Instr.fill, sizeOf]
  rw [show Array.range 6 = #[0, 1, 2, 3, 4, 5] from by decide]
  simp
/-- append(l, p). -/
theorem appendN_run (W : World) (B : Nat) (v : Value) (n : Nat) (L : List NoV) (p : NoV) (hown : W.ownsRow B 39 6 v n (Ny L)) (hB : B ≤ W.heap.size) (hn : n ≤ 16777216) :
    ∃ v' W', (Builtin.append_ #[22, 22] 22 #[v, .slice (some ⟨W.heap.size, 0, none⟩) 1 1]).run Try.prog (W.alloc (.cells (noC p).toArray 39)) = .ok v' W' ∧ W'.ownsRow B 39 6 v' (n + 1) (Ny (L ++ [p])) ∧ (W.alloc (.cells (noC p).toArray 39)).grownBy W' v.ownBlock ∧ (v'.ownBlock = v.ownBlock ∨ v'.ownBlock = some (W.heap.size + 1)) := by
  obtain ⟨i0, hi, hz0, hz1, hz2⟩ := info_parts infoN
  have hnew := blk_new W (.cells (noC p).toArray 39)
  obtain ⟨v3, W3, hr, hown3, hg3, _, hat⟩ := run_append_own_at (P := Try.prog) (W.alloc (.cells (noC p).toArray 39)) B 22 22 39 i0 (NoV.val noZ) 6 80 Try.underlying22 hi hz0 hz1 hz2 rfl (by decide) v n (Ny L) (hown.alloc _) ⟨W.heap.size, 0, none⟩ 1 1 (noC p) rfl (fun j u hj => by
    match j, hj with
    | 0, hj => cases hj; rw [add_at, blk_cell hnew]; rfl
    | 1, hj => cases hj; rw [add_at, blk_cell hnew]; rfl
    | 2, hj => cases hj; rw [add_at, blk_cell hnew]; rfl
    | 3, hj => cases hj; rw [add_at, blk_cell hnew]; rfl
    | 4, hj => cases hj; rw [add_at, blk_cell hnew]; rfl
    | 5, hj => cases hj; rw [add_at, blk_cell hnew]; rfl) (noC_one p) (by unfold maxLen; omega) (by omega) (by simp; omega)
  have e : Ny L ++ noC p = Ny (L ++ [p]) := by rw [Ny_append]; simp [Ny]
  rw [e] at hown3
  rw [World.size_alloc] at hat
  exact ⟨v3, W3, hr, hown3, hg3, hat⟩
theorem ownsN_slice {W : World} {B : Nat} {v : Value} {n : Nat} {xs : List Value} (h : W.ownsRow B 39 6 v n xs) : ∃ ao c, v = .slice ao n c := by
  rcases h.2 with ⟨rfl, rfl⟩ | ⟨g, cap, cur, rfl, -⟩
  · exact ⟨none, 0, rfl⟩
  · exact ⟨_, _, rfl⟩
theorem ownsN_lt {W : World} {B : Nat} {v : Value} {n : Nat} {xs : List Value} (h : W.ownsRow B 39 6 v n xs) : ∀ j, v.ownBlock = some j → B ≤ j ∧ j < W.heap.size ∧ ∃ cs, W.heap[j]? = some (.cells cs 39 (0, 0)) := by
  rcases h.2 with ⟨rfl, rfl⟩ | ⟨g, cap, cur, rfl, hg, hh, -⟩
  · intro j e; cases e
  · intro j e; cases e; exact ⟨hg, lt_of_block hh, _, hh⟩
/-- A row of one's own, with what it leads to, is a row of nodes. -/
theorem ownsN_NoAt {W : World} {B : Nat} {ao : Option Addr} {n c : Nat} {L : List NoV} (h : W.ownsRow B 39 6 (.slice ao n c) n (Ny L)) (hin : ∀ j, j < n → PaAt W (L.getD j noZ).bo (L.getD j noZ).bn (L.getD j noZ).P ∧ EnAt W (L.getD j noZ).so (L.getD j noZ).sn (L.getD j noZ).E ∧ (L.getD j noZ).wf) : NoAt W ao n (fun j => L.getD j noZ) := fun hn => by
  obtain ⟨h1, h2⟩ := h
  have hl : L.length = n := by rw [Ny_length] at h1; omega
  rcases h2 with ⟨e, e2⟩ | ⟨g, cap, cur, e, hg, hh, hnc, hm, hsz, ht⟩
  · omega
  · cases e
    refine ⟨g, 0, rfl, lt_of_block hh, fun j hj => ⟨?_, hin j hj⟩⟩
    have get : ∀ i, i < 6 → W.cell? ⟨g, 0 + j * 6 + i, none⟩ = (noC (L.getD j noZ))[i]? := fun i hi => by
      rw [blk_cell hh, ← Array.getElem?_toList]
      have e : (cur.toList.take (n * 6))[j * 6 + i]? = (Ny L)[j * 6 + i]? := by rw [ht]
      rw [List.getElem?_take, if_pos (by omega), Ny_get L j i (by omega) hi] at e
      rw [Nat.zero_add, e]
    exact ⟨get 0 (by omega), get 1 (by omega), get 2 (by omega), get 3 (by omega), get 4 (by omega), get 5 (by omega)⟩
end Go.Proofs.Ytbahbhaoimabdaa
