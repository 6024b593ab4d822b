/-
  Rows of strings in memory.
-/
import Derived.Test.YtbahbhaoimabdaaPtSpec
import Derived.Test.YtbahbhaoimabdaaShelf
import Derived.RangeFuncNested
import Derived.RangeFuncBound
import Derived.RangeFuncCalls
import Derived.RangeFuncLeaves
import Derived.Shelf.Abstract
import Derived.Shelf.RegionOpen
import Derived.WalkKit
import Derived.OwnWalkIn
import Derived.TacticsInMore
import Derived.LoopNIn
import Derived.LoopIn
import Derived.Stop.RegionWithIn
namespace Go.Proofs.Ytbahbhaoimabdaa
open Go Go.Proofs Go.RowKit Go.Shelf

theorem info9 : (Try.prog.info? 9).map (fun i => (i.zero, i.size, i.bytes)) = some (some (.string ⟨#[]⟩), 1, 16) := by kernel_rfl
theorem info9p : ∃ i0, Try.prog.info? 9 = some i0 ∧ i0.zero = some (.string ⟨#[]⟩) ∧ i0.size = 1 ∧ i0.bytes = 16 := by
  obtain ⟨i0, hi, hz0, hz1, hz2⟩ := info_parts info9
  exact ⟨i0, hi, hz0, hz1, hz2⟩

def strV (p : List UInt8) : Value := .string (mkS p)
/-- Strings as cells. -/
def Sy (L : List (List UInt8)) : List Value := L.map strV
theorem Sy_length (L : List (List UInt8)) : (Sy L).length = L.length := by simp [Sy]
theorem Sy_get (L : List (List UInt8)) (k : Nat) (h : k < L.length) : (Sy L)[k]? = some (strV (L.getD k [])) := by
  simp [Sy, List.getD, List.getElem?_eq_getElem h]
theorem Sy_one (L : List (List UInt8)) : ∀ u ∈ Sy L, u.oneCell' = true := by
  intro u hu
  obtain ⟨p, _, rfl⟩ := List.mem_map.1 hu
  rfl

/-- A slice of strings as it lies in a world. -/
def SAt (W : World) (ao : Option Addr) (n : Nat) (L : List (List UInt8)) : Prop :=
  L.length = n ∧ (0 < n → ∃ a, ao = some a ∧ a.block < W.heap.size ∧ ∀ k, k < n → W.cell? (a.add k) = some (strV (L.getD k [])))
theorem SAt.only {S : Nat → Prop} {W W' : World} {ao : Option Addr} {n : Nat} {L : List (List UInt8)} (h : SAt W ao n L) (ho : Only S W W') (hS : ∀ a, ao = some a → a.block < W.heap.size → ¬ S a.block) : SAt W' ao n L := by
  refine ⟨h.1, fun hn => ?_⟩
  obtain ⟨a, e, hlt, hc⟩ := h.2 hn
  refine ⟨a, e, Nat.lt_of_lt_of_le hlt ho.size, fun i hi => ?_⟩
  have hb := ho.block _ hlt (hS a e hlt)
  rw [World.cell?_of_block (w := W) (by rw [add_block]; exact hb)]
  exact hc i hi
theorem SAt.below {W W' : World} {ao : Option Addr} {n : Nat} {L : List (List UInt8)} (h : SAt W ao n L) (hB : Below W.heap.size W W') : SAt W' ao n L := h.only (Only.of_new (fun _ => False) hB) (fun _ _ _ h => h)
theorem SAt.at {W : World} {ao : Option Addr} {n : Nat} {L : List (List UInt8)} (h : SAt W ao n L) (k : Nat) (hk : k < n) : ∃ a, ao = some a ∧ W.cell? (a.add k) = some (strV (L.getD k [])) := by
  obtain ⟨a, e, hlt, hc⟩ := h.2 (by omega)
  exact ⟨a, e, hc k hk⟩
theorem SAt.place {W : World} {ao : Option Addr} {n : Nat} {L : List (List UInt8)} (h : SAt W ao n L) (hn : 0 < n) : ∃ b o, ao = some ⟨b, o, none⟩ ∧ b < W.heap.size ∧ ∀ k, k < n → W.cell? ⟨b, o + k, none⟩ = some (strV (L.getD k [])) := by
  obtain ⟨a, e, hlt, hc⟩ := h.2 hn
  have h0 := hc 0 hn
  obtain ⟨b, o, sp⟩ := a
  cases sp with
  | some q =>
    rw [show (⟨b, o, some q⟩ : Addr).add 0 = ⟨b, o, some q⟩ from rfl] at h0
    unfold World.cell? at h0
    split at h0
    · simp at h0
    · cases h0
  | none =>
    refine ⟨b, o, e, hlt, fun k hk => ?_⟩
    have := hc k hk
    rwa [add_at] at this
theorem SAt.nil (W : World) (ao : Option Addr) : SAt W ao 0 [] := ⟨rfl, fun h => absurd h (Nat.lt_irrefl 0)⟩
theorem owns_SAt {w : World} {base : Nat} {v : Value} {n : Nat} {L : List (List UInt8)} (h : w.ownsRow base 9 1 v n (Sy L)) : ∃ ao c, v = .slice ao n c ∧ SAt w ao n L ∧ (∀ a, ao = some a → base ≤ a.block ∧ v.ownBlock = some a.block) ∧ n ≤ c ∧ c ≤ 9223372036854775807 := by
  obtain ⟨h1, h2⟩ := h
  rw [Sy_length] at h1
  have hl : L.length = n := by omega
  rcases h2 with ⟨rfl, rfl⟩ | ⟨g, cap, cur, rfl, hg, hh, hnc, hm, hsz, ht⟩
  · exact ⟨none, 0, rfl, ⟨hl, fun h => by omega⟩, fun a e => (by cases e), Nat.le_refl _, by omega⟩
  · refine ⟨_, _, rfl, ⟨hl, fun _ => ⟨_, rfl, lt_of_block hh, fun k hk => ?_⟩⟩, fun a e => (by cases e; exact ⟨hg, rfl⟩), hnc, by unfold maxLen at hm; omega⟩
    have get : ∀ j, j < n → cur[j]? = (Sy L)[j]? := fun j hj => by
      rw [← Array.getElem?_toList, ← ht, List.getElem?_take, if_pos (by omega)]
    rw [add_at, blk_cell hh, Nat.zero_add, get _ hk]
    exact Sy_get L k (by omega)

/-- A new row of one string. -/
theorem exec_one9 {ev : Operand → Value} {oi : Oper} {x : Operand} {p : List UInt8} {W : World} (ho : oi.op = .buildSlice 31 1 #[(0, x)]) (hx : ev x = strV p) : (execOp ev oi).run Try.prog W = .ok (.value (.slice (some ⟨W.heap.size, 0, none⟩) 1 1)) (W.alloc (.cells #[strV p] 9)) := by
  obtain ⟨i0, hi, hz0, hz1, hz2⟩ := info9p
  unfold execOp
  rw [ho]
  simp only [hx, List.map_toArray, List.map_cons, List.map_nil]
  simp [Instr.buildSlice, run_underlying Try.underlying31, zeroValue, typeInfo, hi, hz0, hz1, newRow, strV, Value.cells, Instr.fill, sizeOf]
  rw [show Array.range 1 = #[0] from by decide]
  simp
/-- append(l, p). -/
theorem append9_run (W : World) (B : Nat) (v : Value) (n : Nat) (L : List (List UInt8)) (p : List UInt8) (hown : W.ownsRow B 9 1 v n (Sy L)) (hB : B ≤ W.heap.size) (hn : n ≤ 16777216) :
    ∃ v' W', (Builtin.append_ #[31, 31] 31 #[v, .slice (some ⟨W.heap.size, 0, none⟩) 1 1]).run Try.prog (W.alloc (.cells #[strV p] 9)) = .ok v' W' ∧ W'.ownsRow B 9 1 v' (n + 1) (Sy (L ++ [p])) ∧ Only (fun k => v.ownBlock = some k) W W' := by
  obtain ⟨i0, hi, hz0, hz1, hz2⟩ := info9p
  have hnew := blk_new W (.cells #[strV p] 9)
  obtain ⟨v3, W3, hr, hown3, hg3, _⟩ := run_append_own (P := Try.prog) (W.alloc (.cells #[strV p] 9)) B 31 31 9 i0 (.string ⟨#[]⟩) 1 16 Try.underlying31 hi hz0 hz1 hz2 rfl (by decide) v n (Sy L) (hown.alloc _) ⟨W.heap.size, 0, none⟩ 1 1 [strV p] rfl (fun j u hj => by
    match j, hj with
    | 0, hj => cases hj; rw [add_at, blk_cell hnew]; rfl) (fun u hu => by rw [List.mem_singleton.1 hu]; rfl) (by unfold maxLen; omega) (by omega) (by simp; omega)
  have e : Sy L ++ [strV p] = Sy (L ++ [p]) := by simp [Sy]
  rw [e] at hown3
  exact ⟨v3, W3, hr, hown3, ((Only.refl _ W).alloc _).grown hg3 (fun k e => .inl e)⟩
theorem keep_cells {W W' : World} {row : Option Nat} {b : Nat} {c : Array Value} {t : TypeId} {fr : Nat × Nat} (h : W.heap[b]? = some (.cells c t fr)) (hg : W.grownBy W' row) (hr : ∀ r, row = some r → ∃ o : Obj, W.heap[r]? = some o ∧ o.isCells = false) : W'.heap[b]? = some (.cells c t fr) := by
  rw [hg.block b (lt_of_block h) (fun e => ?_), h]
  obtain ⟨o, ho, hc⟩ := hr b e.symm
  rw [h] at ho
  cases ho
  cases hc
end Go.Proofs.Ytbahbhaoimabdaa
