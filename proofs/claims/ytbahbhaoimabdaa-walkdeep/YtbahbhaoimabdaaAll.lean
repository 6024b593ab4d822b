/-
  All of the program: the numbers of which bytes are made.
-/
import Derived.Test.YtbahbhaoimabdaaInts
namespace Go.Proofs.Ytbahbhaoimabdaa
open Go Go.Proofs Go.RowKit Go.Shelf
theorem info3 : (Try.prog.info? 3).map (fun i => (i.zero, i.size, i.bytes)) = some (some (.int .i64 0), 1, 8) := by kernel_rfl
theorem info3p : ∃ i0, Try.prog.info? 3 = some i0 ∧ i0.zero = some (.int .i64 0) ∧ i0.size = 1 ∧ i0.bytes = 8 := by
  obtain ⟨i0, hi, hz0, hz1, hz2⟩ := info_parts info3
  exact ⟨i0, hi, hz0, hz1, hz2⟩
set_option maxRecDepth 100000 in
/-- make([]int, n). -/
theorem makei_run (w : World) (n : Nat) (hn : n ≤ 16777216) : (Instr.makeSlice 65 (.int .i64 n) (.int .i64 n)).run Try.prog w = .ok (.slice (some ⟨w.heap.size, 0, none⟩) n n) (w.alloc (.cells (Iy (zeros n)).toArray 3)) := by
  obtain ⟨i0, hi, hz0, hz1, hz2⟩ := info3p
  rw [run_makeSlice (P := Try.prog) w 65 3 i0 (.int .i64 0) Try.underlying65 hi hz0 .i64 .i64 n n (by omega) (by omega) (by rw [hz1]; simp; omega) (by rw [hz2]; omega) (by omega)]
  have e : madeCells (Value.int .i64 0).cells ((n : Int).toNat * i0.size) = (Iy (zeros n)).toArray := by
    rw [hz1]
    apply Array.ext'
    rw [show (Iy (zeros n)).toArray.toList = List.replicate n (Value.int .i64 0) by simp [Iy, zeros], List.eq_replicate_iff]
    simp [madeCells, Value.cells, Nat.mod_one]
  rw [e]
  simp
/-- Block g is a row of these ints. -/
def QAt (W : World) (g : Nat) (xs : List Int) : Prop := W.heap[g]? = some (.cells (Iy xs).toArray 3 (0, 0))
theorem QAt.lt {W : World} {g : Nat} {xs : List Int} (h : QAt W g xs) : g < W.heap.size := lt_of_block h
theorem QAt.below {W W' : World} {g B : Nat} {xs : List Int} (h : QAt W g xs) (hb : Below B W W') (hg : g < B) : QAt W' g xs := by
  unfold QAt
  rw [hb.block g hg]
  exact h
theorem QAt.lat {W : World} {g n : Nat} {xs : List Int} (h : QAt W g xs) (hn : xs.length = n) : LAt W (some ⟨g, 0, none⟩) n xs := by
  refine ⟨hn, fun _ => ⟨_, rfl, h.lt, fun i hi => ?_⟩⟩
  rw [add_at, blk_cell h, Nat.zero_add]
  simpa using Iy_get xs i (by omega)
theorem add_off (a : Addr) (o : Nat) : (a.add o).off = a.off + o := by
  unfold Addr.add
  split
  · next h => subst h; rfl
  · rfl
set_option maxRecDepth 100000 in
theorem add_add (a : Addr) (o i : Nat) : (a.add o).add i = a.add (o + i) := by
  by_cases hi : i = 0
  · subst hi; unfold Addr.add; simp
  · have h1 : (a.add o).add i = ⟨(a.add o).block, (a.add o).off + i, none⟩ := by
      conv => lhs; unfold Addr.add
      rw [if_neg hi]
      rfl
    rw [h1, add_block, add_off]
    unfold Addr.add
    rw [if_neg (by omega), Nat.add_assoc]
set_option maxRecDepth 100000 in
theorem BAt.from {W : World} {a : Addr} {n : Nat} {xs : List Int} (h : BAt W (some a) n xs) (o : Nat) (hn : o ≤ n) : BAt W (some (a.add o)) (n - o) (xs.drop o) := by
  refine ⟨by simp [h.1], fun hp => ?_⟩
  obtain ⟨a', e, hlt, hc⟩ := h.2 (by omega)
  cases e
  refine ⟨_, rfl, by rw [add_block]; exact hlt, fun i hi => ?_⟩
  rw [add_add, hc (o + i) (by omega)]
  simp [List.getD]
/-- The numbers of so many bytes each. -/
def allL (K : Nat) (xs : List Int) : List Int := (List.range (xs.length / K)).map (fun i => numL ((xs.drop (K * i)).take K))
theorem allL_length (K : Nat) (xs : List Int) : (allL K xs).length = xs.length / K := by simp [allL]
theorem allL_get (K : Nat) (xs : List Int) (i : Nat) (h : i < xs.length / K) : (allL K xs).getD i 0 = numL ((xs.drop (K * i)).take K) := by
  simp [allL, List.getD, h]
theorem splice_all (N : Nat) (A : List Int) (h : A.length = N) : splice (zeros N) 0 A = A := by
  unfold splice
  rw [Nat.zero_add, List.drop_of_length_le (by rw [zeros_length]; omega)]
  simp
end Go.Proofs.Ytbahbhaoimabdaa
