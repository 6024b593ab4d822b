/-
  Rows of one's own: a cell turned; slots, blocks and nodes as cells.
-/
import Derived.Test.YtbahbhaoimabdaaWkClone
namespace Go.Proofs.Ytbahbhaoimabdaa
open Go Go.Proofs Go.RowKit Go.Shelf

theorem owns_setG {w : World} {base : Nat} {e : TypeId} {size n : Nat} {v : Value} {xs : List Value} {g : Nat} (h : w.ownsRow base e size v n xs) (hg : v.ownBlock = some g) (i : Nat) (u : Value) : (w.setCell ⟨g, i, none⟩ u).ownsRow base e size v n (xs.set i u) := by
  obtain ⟨h1, h2⟩ := h
  refine ⟨by rw [List.length_set]; exact h1, ?_⟩
  rcases h2 with ⟨rfl, _⟩ | ⟨g', cap, cur, rfl, q1, hh, hnc, hm, hsz, ht⟩
  · cases hg
  · cases hg
    refine .inr ⟨g', cap, cur.setIfInBounds i u, rfl, q1, blk_set hh, hnc, hm, by rw [Array.size_setIfInBounds]; exact hsz, ?_⟩
    rw [Array.toList_setIfInBounds, List.take_set, ht]
theorem owns_cellG {w : World} {base : Nat} {e : TypeId} {size n : Nat} {v : Value} {xs : List Value} {g : Nat} (h : w.ownsRow base e size v n xs) (hg : v.ownBlock = some g) (i : Nat) (hi : i < n * size) : w.cell? ⟨g, i, none⟩ = xs[i]? ∧ w.frozen? ⟨g, i, none⟩ = false := by
  rcases h.2 with ⟨rfl, _⟩ | ⟨g', cap, cur, rfl, q1, hh, hnc, hm, hsz, ht⟩
  · cases hg
  · cases hg
    refine ⟨?_, blk_free hh i⟩
    rw [blk_cell hh, ← Array.getElem?_toList, ← ht, List.getElem?_take, if_pos hi]
theorem owns_some {w : World} {base : Nat} {e : TypeId} {size n : Nat} {v : Value} {xs : List Value} (h : w.ownsRow base e size v n xs) (hn : 0 < n) : ∃ g c, v = .slice (some ⟨g, 0, none⟩) n c ∧ base ≤ g ∧ g < w.heap.size ∧ v.ownBlock = some g ∧ ∃ cs, w.heap[g]? = some (.cells cs e (0, 0)) := by
  rcases h.2 with ⟨rfl, e⟩ | ⟨g', cap, cur, rfl, q1, hh, hnc, hm, hsz, ht⟩
  · omega
  · exact ⟨g', cap, rfl, q1, lt_of_block hh, rfl, _, hh⟩
theorem owns_kind {w : World} {base : Nat} {e : TypeId} {size n : Nat} {v : Value} {xs : List Value} (h : w.ownsRow base e size v n xs) : ∀ g, v.ownBlock = some g → base ≤ g ∧ g < w.heap.size ∧ ∃ cs, w.heap[g]? = some (.cells cs e (0, 0)) := by
  rcases h.2 with ⟨rfl, _⟩ | ⟨g', cap, cur, rfl, q1, hh, hnc, hm, hsz, ht⟩
  · intro g e; cases e
  · intro g e; cases e; exact ⟨q1, lt_of_block hh, _, hh⟩
theorem owns_val {w : World} {base : Nat} {e : TypeId} {size n : Nat} {v : Value} {xs : List Value} (h : w.ownsRow base e size v n xs) : ∃ ao c, v = .slice ao n c ∧ (ao = none → n = 0 ∧ c = 0) ∧ ∀ a, ao = some a → a = ⟨a.block, 0, none⟩ ∧ v.ownBlock = some a.block := by
  rcases h.2 with ⟨rfl, rfl⟩ | ⟨g', cap, cur, rfl, q1, hh, hnc, hm, hsz, ht⟩
  · exact ⟨none, 0, rfl, fun _ => ⟨rfl, rfl⟩, fun a e => by cases e⟩
  · exact ⟨_, _, rfl, (fun e => by cases e), fun a e => by cases e; exact ⟨rfl, rfl⟩⟩
/-- Slots as cells. -/
def Ey (n : Nat) (E : Nat → EnV) : List Value := (List.range n).flatMap (fun k => [.int .i64 (E k).ino, .string (E k).nm])
/-- Blocks as cells. -/
def Qy (n : Nat) (P : Nat → PaV) : List Value := (List.range n).flatMap (fun k => [.int .i64 (P k).at', .slice (P k).ao (P k).m (P k).cc])
theorem flat2_length {f g : Nat → Value} (n : Nat) : ((List.range n).flatMap (fun k => [f k, g k])).length = n * 2 := by
  induction n with
  | zero => rfl
  | succ n ih => rw [List.range_succ, List.flatMap_append, List.length_append, ih]; simp; omega
theorem flat2_get {f g : Nat → Value} (n k : Nat) (hk : k < n) : ((List.range n).flatMap (fun k => [f k, g k]))[k * 2]? = some (f k) ∧ ((List.range n).flatMap (fun k => [f k, g k]))[k * 2 + 1]? = some (g k) := by
  induction n with
  | zero => omega
  | succ n ih =>
    rw [List.range_succ, List.flatMap_append]
    have hl := flat2_length (f := f) (g := g) n
    by_cases e : k = n
    · subst e
      rw [List.getElem?_append_right (by omega), List.getElem?_append_right (by omega), hl]
      rw [show k * 2 - k * 2 = 0 by omega, show k * 2 + 1 - k * 2 = 1 by omega]
      exact ⟨rfl, rfl⟩
    · rw [List.getElem?_append_left (by omega), List.getElem?_append_left (by omega)]
      exact ih (by omega)
theorem flat2_ext {f g : Nat → Value} {n : Nat} {L : List Value} (hl : L.length = n * 2) (h : ∀ k, k < n → L[k * 2]? = some (f k) ∧ L[k * 2 + 1]? = some (g k)) : L = (List.range n).flatMap (fun k => [f k, g k]) := by
  apply List.ext_getElem?
  intro i
  rcases Nat.lt_or_ge i (n * 2) with hi | hi
  · obtain ⟨k, hk⟩ : ∃ k, i = k * 2 ∨ i = k * 2 + 1 := ⟨i / 2, by omega⟩
    rcases hk with rfl | rfl
    · rw [(h k (by omega)).1, (flat2_get n k (by omega)).1]
    · rw [(h k (by omega)).2, (flat2_get n k (by omega)).2]
  · rw [List.getElem?_eq_none (by omega), List.getElem?_eq_none (by rw [flat2_length]; omega)]
/-- The cells of a row of slots that came in, or of one's own. -/
theorem EnAt.cells {W : World} {ao : Option Addr} {n : Nat} {E : Nat → EnV} (h : EnAt W ao n E) {a : Addr} (ha : ao = some a) : ∀ j u, (Ey n E)[j]? = some u → W.cell? (a.add j) = some u := by
  intro j u hu
  have hj : j < n * 2 := by
    have := (List.getElem?_eq_some_iff.1 hu).1
    rwa [Ey, flat2_length] at this
  obtain ⟨b, o, e, -, hc⟩ := h (by omega)
  rw [ha] at e
  cases e
  obtain ⟨k, hk⟩ : ∃ k, j = k * 2 ∨ j = k * 2 + 1 := ⟨j / 2, by omega⟩
  rcases hk with rfl | rfl
  · rw [Ey, (flat2_get n k (by omega)).1] at hu
    rw [add_at, (hc k (by omega)).1, hu]
  · rw [Ey, (flat2_get n k (by omega)).2] at hu
    rw [add_at, ← Nat.add_assoc, (hc k (by omega)).2, hu]
theorem PaAt.cells {W : World} {ao : Option Addr} {n : Nat} {P : Nat → PaV} (h : PaAt W ao n P) {a : Addr} (ha : ao = some a) : ∀ j u, (Qy n P)[j]? = some u → W.cell? (a.add j) = some u := by
  intro j u hu
  have hj : j < n * 2 := by
    have := (List.getElem?_eq_some_iff.1 hu).1
    rwa [Qy, flat2_length] at this
  obtain ⟨b, o, e, -, hc⟩ := h (by omega)
  rw [ha] at e
  cases e
  obtain ⟨k, hk⟩ : ∃ k, j = k * 2 ∨ j = k * 2 + 1 := ⟨j / 2, by omega⟩
  rcases hk with rfl | rfl
  · rw [Qy, (flat2_get n k (by omega)).1] at hu
    rw [add_at, (hc k (by omega)).1.1, hu]
  · rw [Qy, (flat2_get n k (by omega)).2] at hu
    rw [add_at, ← Nat.add_assoc, (hc k (by omega)).1.2, hu]
theorem Ey_one (n : Nat) (E : Nat → EnV) : ∀ u ∈ Ey n E, u.oneCell' = true := by
  intro u hu
  obtain ⟨k, -, hk⟩ := List.mem_flatMap.1 hu
  simp at hk
  rcases hk with rfl | rfl <;> rfl
theorem Qy_one (n : Nat) (P : Nat → PaV) : ∀ u ∈ Qy n P, u.oneCell' = true := by
  intro u hu
  obtain ⟨k, -, hk⟩ := List.mem_flatMap.1 hu
  simp at hk
  rcases hk with rfl | rfl <;> rfl
theorem Ny_one (L : List NoV) : ∀ u ∈ Ny L, u.oneCell' = true := by
  intro u hu
  obtain ⟨x, -, hx⟩ := List.mem_flatMap.1 hu
  exact noC_one x u hx
theorem Ny_set (L : List NoV) (j i : Nat) (hj : j < L.length) (hi : i < 6) (u : Value) (x : NoV) (hx : noC x = (noC (L.getD j noZ)).set i u) : (Ny L).set (j * 6 + i) u = Ny (L.set j x) := by
  induction L generalizing j with
  | nil => cases hj
  | cons y L ih =>
    have e : Ny (y :: L) = noC y ++ Ny L := rfl
    have hl : (noC y).length = 6 := rfl
    rw [e]
    cases j with
    | zero =>
      rw [List.set_append_left _ _ (by omega), List.set_cons_zero]
      have e2 : Ny (x :: L) = noC x ++ Ny L := rfl
      rw [e2, hx]
      simp
    | succ j =>
      rw [List.set_append_right _ _ (by omega), hl, show (j + 1) * 6 + i - 6 = j * 6 + i by omega, List.set_cons_succ]
      have e2 : Ny (y :: L.set j x) = noC y ++ Ny (L.set j x) := rfl
      rw [e2, ih j (by simpa using hj) (by simpa using hx)]
theorem EnAt_of {W : World} {base : Nat} {ao : Option Addr} {n c : Nat} {E : Nat → EnV} (h : W.ownsRow base 41 2 (.slice ao n c) n (Ey n E)) : EnAt W ao n E := fun hn => by
  obtain ⟨g, c', e, -, hl, hg, -⟩ := owns_some h hn
  cases e
  refine ⟨g, 0, rfl, hl, fun j hj => ?_⟩
  rw [Nat.zero_add, (owns_cellG h hg (j * 2) (by omega)).1, (owns_cellG h hg (j * 2 + 1) (by omega)).1]
  exact flat2_get n j hj
end Go.Proofs.Ytbahbhaoimabdaa
