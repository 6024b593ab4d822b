/-
  Rows of strings of one's own; rows of bools; where a node's number stands.
-/
import Derived.Test.YtbahbhaoimabdaaWkRange
import Derived.Maps.AppendAt
namespace Go.Proofs.Ytbahbhaoimabdaa
open Go Go.Proofs Go.RowKit Go.Shelf

theorem infoS : (Try.prog.info? 9).map (fun i => (i.zero, i.size, i.bytes)) = some (some (.string ⟨#[]⟩), 1, 16) := by kernel_rfl
theorem infoSp : ∃ i0, Try.prog.info? 9 = some i0 ∧ i0.zero = some (.string ⟨#[]⟩) ∧ i0.size = 1 ∧ i0.bytes = 16 := by
  obtain ⟨i0, hi, hz0, hz1, hz2⟩ := info_parts infoS
  exact ⟨i0, hi, hz0, hz1, hz2⟩
/-- Strings as cells. -/
def Sb (L : List ByteArray) : List Value := L.map .string
/-- A new row of one string. -/
theorem exec_oneB {ev : Operand → Value} {oi : Oper} {x : Operand} {p : ByteArray} {W : World} (ho : oi.op = .buildSlice 31 1 #[(0, x)]) (hx : ev x = .string p) : (execOp ev oi).run Try.prog W = .ok (.value (.slice (some ⟨W.heap.size, 0, none⟩) 1 1)) (W.alloc (.cells #[.string p] 9)) := by
  obtain ⟨i0, hi, hz0, hz1, hz2⟩ := infoSp
  unfold execOp
  rw [ho]
  simp only [hx, List.map_toArray, List.map_cons, List.map_nil]
  simp [Instr.buildSlice, run_underlying Try.underlying31, zeroValue, typeInfo, hi, hz0, hz1, newRow, Value.cells, Instr.fill, sizeOf]
  rw [show Array.range 1 = #[0] from by decide]
  simp
/-- append(l, p). -/
theorem appendB_run (W : World) (B : Nat) (v : Value) (n : Nat) (L : List ByteArray) (p : ByteArray) (hown : W.ownsRow B 9 1 v n (Sb L)) (hB : B ≤ W.heap.size) (hn : n ≤ 16777216) :
    ∃ v' W', (Builtin.append_ #[31, 31] 31 #[v, .slice (some ⟨W.heap.size, 0, none⟩) 1 1]).run Try.prog (W.alloc (.cells #[.string p] 9)) = .ok v' W' ∧ W'.ownsRow B 9 1 v' (n + 1) (Sb (L ++ [p])) ∧ (W.alloc (.cells #[.string p] 9)).grownBy W' v.ownBlock ∧ (v'.ownBlock = v.ownBlock ∨ v'.ownBlock = some (W.heap.size + 1)) := by
  obtain ⟨i0, hi, hz0, hz1, hz2⟩ := infoSp
  have hnew := blk_new W (.cells #[.string p] 9)
  obtain ⟨v3, W3, hr, hown3, hg3, _, hat⟩ := run_append_own_at (P := Try.prog) (W.alloc (.cells #[.string p] 9)) B 31 31 9 i0 (.string ⟨#[]⟩) 1 16 Try.underlying31 hi hz0 hz1 hz2 rfl (by decide) v n (Sb L) (hown.alloc _) ⟨W.heap.size, 0, none⟩ 1 1 [.string p] rfl (fun j u hj => by
    match j, hj with
    | 0, hj => cases hj; rw [add_at, blk_cell hnew]; rfl) (fun u hu => by rw [List.mem_singleton.1 hu]; rfl) (by unfold maxLen; omega) (by omega) (by simp; omega)
  have e : Sb L ++ [.string p] = Sb (L ++ [p]) := by simp [Sb]
  rw [e] at hown3
  rw [World.size_alloc] at hat
  exact ⟨v3, W3, hr, hown3, hg3, hat⟩
/-- Which of the nodes were gone into. -/
def GoAt (W : World) (gb m : Nat) (G : Nat → Bool) : Prop := ∃ cs t, W.heap[gb]? = some (.cells cs t (0, 0)) ∧ cs.size = m ∧ ∀ j, j < m → cs[j]? = some (.bool (G j))
def goneF (G : Nat → Bool) (d : Nat) : Nat → Bool := fun j => if j = d then true else G j
theorem GoAt.lt {W : World} {gb m : Nat} {G : Nat → Bool} (h : GoAt W gb m G) : gb < W.heap.size := by
  obtain ⟨cs, t, h, _⟩ := h
  exact lt_of_block h
theorem GoAt.kept {W W' : World} {gb m : Nat} {G : Nat → Bool} (h : GoAt W gb m G) (hk : W'.heap[gb]? = W.heap[gb]?) : GoAt W' gb m G := by
  obtain ⟨cs, t, h, r⟩ := h
  exact ⟨cs, t, hk.trans h, r⟩
theorem GoAt.cell {W : World} {gb m : Nat} {G : Nat → Bool} (h : GoAt W gb m G) {j : Nat} (hj : j < m) : W.cell? ⟨gb, j, none⟩ = some (.bool (G j)) ∧ W.frozen? ⟨gb, j, none⟩ = false := by
  obtain ⟨cs, t, h, _, r⟩ := h
  exact ⟨by rw [blk_cell h]; exact r j hj, blk_free h j⟩
theorem GoAt.set {W : World} {gb m : Nat} {G : Nat → Bool} (h : GoAt W gb m G) {d : Nat} (hd : d < m) : GoAt (W.setCell ⟨gb, d, none⟩ (.bool true)) gb m (goneF G d) := by
  obtain ⟨cs, t, h, hs, r⟩ := h
  refine ⟨cs.setIfInBounds d (.bool true), t, ?_, by simpa using hs, fun j hj => ?_⟩
  · exact blk_set h
  · by_cases e : j = d
    · subst e; simp [goneF, hs, hd]
    · rw [Array.getElem?_setIfInBounds_ne (by omega)]; simp [goneF, e, r j hj]
/-- The place of the first node of a number. -/
def firstN (m : Nat) (N : Nat → NoV) (ino : Int) : Option Nat := (List.range m).find? (fun j => decide ((N j).ino = ino))
theorem firstN_some {m : Nat} {N : Nat → NoV} {ino : Int} {j : Nat} (h : firstN m N ino = some j) : j < m ∧ (N j).ino = ino := by
  unfold firstN at h
  have h1 := List.find?_some h
  have h2 := List.mem_of_find?_eq_some h
  exact ⟨List.mem_range.1 h2, by simpa using h1⟩
theorem plc_step {m : Nat} {N : Nat → NoV} (q : Nat) (ino : Int) : plcF m N (q + 1) (.int .i64 ino) = if (N (m - 1 - q)).ino = ino then some (.int .i64 ((m - 1 - q : Nat) : Int)) else plcF m N q (.int .i64 ino) := by
  simp only [plcF, updF]
  by_cases h : (N (m - 1 - q)).ino = ino
  · simp [h]
  · have h2 : ¬ ino = (N (m - 1 - q)).ino := fun e => h e.symm
    simp [h, h2]
theorem plc_first (m : Nat) (N : Nat → NoV) (ino : Int) : plcF m N m (.int .i64 ino) = (firstN m N ino).map fun j => .int .i64 (j : Int) := by
  have key : ∀ q, q ≤ m → plcF m N q (.int .i64 ino) = ((List.range' (m - q) q).find? (fun j => decide ((N j).ino = ino))).map fun j => .int .i64 (j : Int) := by
    intro q
    induction q with
    | zero => intro _; rfl
    | succ q ih =>
      intro hq
      rw [plc_step, ih (by omega)]
      have e : List.range' (m - (q + 1)) (q + 1) = (m - 1 - q) :: List.range' (m - q) q := by
        rw [List.range'_succ]
        congr 1
        · omega
        · congr 1; omega
      rw [e, List.find?_cons]
      by_cases h : (N (m - 1 - q)).ino = ino
      · simp [h]
      · simp [h]
  have := key m (Nat.le_refl _)
  rw [this, Nat.sub_self, firstN, List.range_eq_range']
end Go.Proofs.Ytbahbhaoimabdaa
