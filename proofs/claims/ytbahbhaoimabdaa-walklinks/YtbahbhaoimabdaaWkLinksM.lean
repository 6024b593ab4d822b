/-
  A file of many names: what lies in memory.
-/
import Derived.Test.YtbahbhaoimabdaaWkLinksL
import Derived.Test.YtbahbhaoimabdaaWkAns
namespace Go.Proofs.Ytbahbhaoimabdaa
open Go Go.Proofs Go.RowKit Go.Shelf

/-- The directory's slots. -/
def lkE (j : Nat) : EnV := if j % 2 = 0 then ⟨7, lS (j / 2)⟩ else ⟨0, ⟨#[]⟩⟩
theorem lkE_even (i : Nat) : lkE (i * 2) = ⟨7, lS i⟩ := by
  unfold lkE
  rw [if_pos (by omega), show i * 2 / 2 = i by omega]
theorem lkE_odd (i : Nat) : lkE (i * 2 + 1) = ⟨0, ⟨#[]⟩⟩ := by
  unfold lkE
  rw [if_neg (by omega)]
def lkC (i : Nat) : List Value := [.int .i64 7, .string (lS i), .int .i64 0, .string ⟨#[]⟩]
theorem Ey_lk (i : Nat) : Ey (i * 2) lkE ++ lkC i = Ey ((i + 1) * 2) lkE := by
  unfold Ey
  rw [show (i + 1) * 2 = i * 2 + 1 + 1 by omega, List.range_succ, List.range_succ, List.flatMap_append, List.flatMap_append, List.append_assoc]
  simp [lkE_even, lkE_odd, lkC]
/-- A new row of two slots. -/
theorem exec_twoE {ev : Operand → Value} {oi : Oper} {x y : Operand} {i : Nat} {W : World} (ho : oi.op = .buildSlice 37 2 #[(0, x), (1, y)]) (hx : ev x = .agg #[.int .i64 7, .string (lS i)]) (hy : ev y = .agg #[.int .i64 0, .string ⟨#[]⟩]) : (execOp ev oi).run Try.prog W = .ok (.value (.slice (some ⟨W.heap.size, 0, none⟩) 2 2)) (W.alloc (.cells (lkC i).toArray 41)) := by
  obtain ⟨i0, hi, hz0, hz1, hz2⟩ := info_parts info_clonE
  unfold execOp
  rw [ho]
  simp only [hx, hy, List.map_toArray, List.map_cons, List.map_nil]
  simp [Instr.buildSlice, run_underlying Try.underlying37, zeroValue, typeInfo, hi, hz0, hz1, newRow, lkC, Value.cells, Instr.fill, sizeOf]
  rw [show Array.range 4 = #[0, 1, 2, 3] from by decide]
  simp
theorem lkC_one (i : Nat) : ∀ u ∈ lkC i, u.oneCell' = true := by
  intro u hu
  simp only [lkC, List.mem_cons, List.not_mem_nil, or_false] at hu
  rcases hu with rfl | rfl | rfl | rfl <;> rfl
theorem appendE2_run (W : World) (B : Nat) (v : Value) (i : Nat) (hown : W.ownsRow B 41 2 v (i * 2) (Ey (i * 2) lkE)) (hB : B ≤ W.heap.size) (hn : i ≤ 16777216) :
    ∃ v' W', (Builtin.append_ #[37, 37] 37 #[v, .slice (some ⟨W.heap.size, 0, none⟩) 2 2]).run Try.prog (W.alloc (.cells (lkC i).toArray 41)) = .ok v' W' ∧ W'.ownsRow B 41 2 v' ((i + 1) * 2) (Ey ((i + 1) * 2) lkE) ∧ (W.alloc (.cells (lkC i).toArray 41)).grownBy W' v.ownBlock ∧ (v'.ownBlock = v.ownBlock ∨ v'.ownBlock = some (W.heap.size + 1)) := by
  obtain ⟨i0, hi, hz0, hz1, hz2⟩ := info_parts info_clonE
  have hnew := blk_new W (.cells (lkC i).toArray 41)
  obtain ⟨v3, W3, hr, hown3, hg3, _, hat⟩ := run_append_own_at (P := Try.prog) (W.alloc (.cells (lkC i).toArray 41)) B 37 37 41 i0 (.agg #[.int .i64 0, .string ⟨#[]⟩]) 2 24 Try.underlying37 hi hz0 hz1 hz2 rfl (by decide) v (i * 2) (Ey (i * 2) lkE) (hown.alloc _) ⟨W.heap.size, 0, none⟩ 2 2 (lkC i) rfl (fun j u hj => by
    match j, hj with
    | 0, hj => cases hj; rw [add_at, blk_cell hnew]; rfl
    | 1, hj => cases hj; rw [add_at, blk_cell hnew]; rfl
    | 2, hj => cases hj; rw [add_at, blk_cell hnew]; rfl
    | 3, hj => cases hj; rw [add_at, blk_cell hnew]; rfl) (lkC_one i) (by unfold maxLen; omega) (by omega) (by simp; omega)
  rw [Ey_lk, show i * 2 + 2 = (i + 1) * 2 by omega] at hown3
  rw [World.size_alloc] at hat
  exact ⟨v3, W3, hr, hown3, hg3, hat⟩
set_option maxRecDepth 100000 in
/-- A letter of the law's string. -/
theorem exec_letter {ev : Operand → Value} {oi : Oper} {x y : Operand} {w : World} (q : Nat) (hq : q < 20) (ho : oi.op = .slice 9 (.const (.string ⟨#[97, 98, 99, 100, 101, 102, 103, 104, 105, 106, 107, 108, 109, 110, 111, 112, 113, 114, 115, 116]⟩)) (some x) (some y) none) (hv : ev (.const (.string ⟨#[97, 98, 99, 100, 101, 102, 103, 104, 105, 106, 107, 108, 109, 110, 111, 112, 113, 114, 115, 116]⟩)) = .string ⟨#[97, 98, 99, 100, 101, 102, 103, 104, 105, 106, 107, 108, 109, 110, 111, 112, 113, 114, 115, 116]⟩) (hx : ev x = .int .i64 q) (hy : ev y = .int .i64 ((q : Int) + 1)) :
    (execOp ev oi).run Try.prog w = .ok (.value (.string (lS q))) w := by
  unfold execOp
  rw [ho]
  simp only [hx, hy, hv, Option.map]
  have h20 : q = 0 ∨ q = 1 ∨ q = 2 ∨ q = 3 ∨ q = 4 ∨ q = 5 ∨ q = 6 ∨ q = 7 ∨ q = 8 ∨ q = 9 ∨ q = 10 ∨ q = 11 ∨ q = 12 ∨ q = 13 ∨ q = 14 ∨ q = 15 ∨ q = 16 ∨ q = 17 ∨ q = 18 ∨ q = 19 := by omega
  rcases h20 with rfl | rfl | rfl | rfl | rfl | rfl | rfl | rfl | rfl | rfl | rfl | rfl | rfl | rfl | rfl | rfl | rfl | rfl | rfl | rfl <;> rfl
/-- The nodes. -/
def lkN (n : Nat) (so : Option Addr) (sc : Nat) : Nat → NoV
  | 0 => ⟨7, 1, (n : Int), 0, none, 0, 0, fun _ => ⟨0, none, 0, 0, []⟩, none, 0, 0, fun _ => ⟨0, ⟨#[]⟩⟩⟩
  | _ => ⟨1, 2, 0, 0, none, 0, 0, fun _ => ⟨0, none, 0, 0, []⟩, so, n * 2, sc, lkE⟩
theorem lkN_ok (n : Nat) (so : Option Addr) (sc : Nat) : LinkOk n (lkN n so sc) := ⟨⟨rfl, rfl, rfl⟩, ⟨rfl, rfl, rfl⟩, fun i _ => ⟨lkE_even i, lkE_odd i⟩⟩
theorem lkN_sml (n : Nat) (so : Option Addr) (sc : Nat) (hn : n ≤ 20) : Sml 2 (lkN n so sc) := by
  refine ⟨by omega, fun i hi => ?_, fun i hi => ?_, fun i hi k hk => ?_⟩
  · match i, hi with
    | 0, _ => exact Nat.zero_le _
    | 1, _ => show n * 2 ≤ 500; omega
  · match i, hi with
    | 0, _ => exact Nat.zero_le _
    | 1, _ => exact Nat.zero_le _
  · match i, hi with
    | 0, _ => exact absurd hk (Nat.not_lt_zero k)
    | 1, _ => exact absurd hk (Nat.not_lt_zero k)
theorem lkE_wf (j : Nat) : (Lit.int .i64 (lkE j).ino).wf = true := by
  unfold lkE
  split <;> rfl
theorem lkE_nm (j : Nat) : (lkE j).nm.size ≤ 1 := by
  unfold lkE
  split
  · exact Nat.le_refl _
  · exact Nat.zero_le _
theorem lkN_at {W : World} {lb n : Nat} {so : Option Addr} {sc : Nat} (hb : W.heap[lb]? = some (.cells #[.int .i64 7, .int .i64 1, .int .i64 (n : Int), .int .i64 0, .slice none 0 0, .slice none 0 0, .int .i64 1, .int .i64 2, .int .i64 0, .int .i64 0, .slice none 0 0, .slice so (n * 2) sc] 39 (0, 0))) (hE : EnAt W so (n * 2) lkE) (hn : n ≤ 20) : NoAt W (some ⟨lb, 0, none⟩) 2 (lkN n so sc) := by
  intro _
  refine ⟨lb, 0, rfl, lt_of_block hb, fun j hj => ?_⟩
  match j, hj with
  | 0, _ => exact ⟨⟨by rw [blk_cell hb]; rfl, by rw [blk_cell hb]; rfl, by rw [blk_cell hb]; rfl, by rw [blk_cell hb]; rfl, by rw [blk_cell hb]; rfl, by rw [blk_cell hb]; rfl⟩, fun h => absurd h (Nat.lt_irrefl 0), fun h => absurd h (Nat.lt_irrefl 0), ⟨Nat.zero_le _, Nat.zero_le _, rfl, fun k hk => absurd hk (Nat.not_lt_zero k)⟩⟩
  | 1, _ => exact ⟨⟨by rw [blk_cell hb]; rfl, by rw [blk_cell hb]; rfl, by rw [blk_cell hb]; rfl, by rw [blk_cell hb]; rfl, by rw [blk_cell hb]; rfl, by rw [blk_cell hb]; rfl⟩, fun h => absurd h (Nat.lt_irrefl 0), hE, ⟨Nat.zero_le _, by show n * 2 ≤ 9223372036854775807; omega, rfl, fun k _ => lkE_wf k⟩⟩
/-- Between two names. -/
structure LinI (w : World) (bx i : Nat) (so : Option Addr) (sc : Nat) (W : World) : Prop where
  own : W.ownsRow w.heap.size 41 2 (.slice so (i * 2) sc) (i * 2) (Ey (i * 2) lkE)
  box : W.heap[bx]? = some (.cells #[.int .i64 1, .int .i64 2, .int .i64 0, .int .i64 0, .slice none 0 0, .slice so (i * 2) sc] 39 (0, 0))
  below : Below w.heap.size w W
theorem LinI.blw {w : World} {bx i : Nat} {so : Option Addr} {sc : Nat} {W W' : World} (h : LinI w bx i so sc W) (hB : Below W.heap.size W W') : LinI w bx i so sc W' := ⟨owns_at h.own (fun g e => hB.block g (owns_kind h.own g e).2.1), (hB.block bx (lt_of_block h.box)).trans h.box, h.below.trans (hB.mono h.below.size)⟩
theorem LinI.next {w : World} {bx i : Nat} {so : Option Addr} {sc : Nat} {W : World} (h : LinI w bx i so sc W) (hlo : w.heap.size ≤ bx) (hi : i < 20) : ∃ so' sc' W', (Builtin.append_ #[37, 37] 37 #[.slice so (i * 2) sc, .slice (some ⟨W.heap.size, 0, none⟩) 2 2]).run Try.prog (W.alloc (.cells (lkC i).toArray 41)) = .ok (.slice so' ((i + 1) * 2) sc') W' ∧ W'.cell? ⟨bx, 5, none⟩ = some (.slice so (i * 2) sc) ∧ W'.frozen? ⟨bx, 5, none⟩ = false ∧ LinI w bx (i + 1) so' sc' (W'.setCell ⟨bx, 5, none⟩ (.slice so' ((i + 1) * 2) sc')) := by
  obtain ⟨v', W', hr, hown, hg, hv⟩ := appendE2_run W w.heap.size _ i h.own h.below.size (by omega)
  obtain ⟨so', sc', rfl, -, -⟩ := owns_val hown
  have hbl := lt_of_block h.box
  have hne : (Value.slice so (i * 2) sc).ownBlock ≠ some bx := fun e => by
    obtain ⟨-, -, cs, h2⟩ := owns_kind h.own bx e
    exact ty_ne h2 h.box (by decide) rfl
  have hb' : W'.heap[bx]? = some (.cells #[.int .i64 1, .int .i64 2, .int .i64 0, .int .i64 0, .slice none 0 0, .slice so (i * 2) sc] 39 (0, 0)) := by
    rw [hg.block bx (by simp; omega) (fun e => hne e.symm), Below.heap_alloc _ _ _ hbl]
    exact h.box
  have c5 := blk_cell hb' 5
  simp at c5
  refine ⟨so', sc', W', hr, c5, by simp [World.frozen?, hb'], owns_at hown (fun g e => Below.heap_setCell _ _ _ _ (fun e2 => ?_)), blk_set hb', ((h.below.alloc h.below.size _).grown hg (by have := h.below.size; simp; omega) (fun k e => (owns_kind h.own k e).1)).setCell hlo _⟩
  obtain ⟨-, -, cs, h2⟩ := owns_kind hown g e
  exact ty_ne h2 hb' (by decide) e2
end Go.Proofs.Ytbahbhaoimabdaa
