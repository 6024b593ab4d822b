/-
  An answer that is spoilt: what stays.
-/
import Derived.Test.YtbahbhaoimabdaaWkAns
namespace Go.Proofs.Ytbahbhaoimabdaa
open Go Go.Proofs Go.RowKit Go.Shelf

theorem AnsAt.kept {B k : Nat} {v : Value} {N : Nat → NoV} {W W' : World} (h : AnsAt B k v N W) (hk : ∀ g, B ≤ g → g < W.heap.size → W'.heap[g]? = W.heap[g]?) : AnsAt B k v N W' := by
  have ho : ∀ {t : TypeId} {size n : Nat} {v : Value} {xs : List Value}, W.ownsRow B t size v n xs → W'.ownsRow B t size v n xs := fun h1 => owns_at h1 (fun g e => by
    obtain ⟨q1, q2, -⟩ := owns_kind h1 g e
    exact hk g q1 q2)
  exact ⟨ho h.row, fun i hi => ⟨ho (h.own i hi).slots, ho (h.own i hi).parts, fun j hj => ho ((h.own i hi).data j hj)⟩, h.fine⟩
/-- Between two steps of the spoiling: V is the world where it began; the answer's rows lie from B up to H. -/
structure SpJ (B H k : Nat) (v : Value) (K : Nat → NoV) (V W : World) : Prop where
  row : W.ownsRow B 39 6 v k (Ny ((List.range k).map K))
  slots : ∀ i, i < k → ∃ xs, W.ownsRow B 41 2 (slV (K i)) (K i).sn xs
  parts : ∀ i, i < k → W.ownsRow B 44 2 (blV (K i)) (K i).bn (Qy (K i).bn (K i).P)
  data : ∀ i, i < k → ∀ j, j < (K i).bn → ∃ xs, W.ownsRow B 5 1 (daV ((K i).P j)) ((K i).P j).m (By xs)
  upS : ∀ i, i < k → ∀ g, (slV (K i)).ownBlock = some g → g < H
  upD : ∀ i, i < k → ∀ j, j < (K i).bn → ∀ g, (daV ((K i).P j)).ownBlock = some g → g < H
  span : Only (fun b => B ≤ b ∧ b < H) V W
section
variable {B H k : Nat} {v : Value} {K : Nat → NoV} {V W W' : World}
theorem AnsAt.spoil {W0 : World} (h : AnsAt B k v K V) (h0 : AnsAt B k v K W0) (hH : W0.heap.size ≤ H) : SpJ B H k v K V V :=
  ⟨h.row, fun i hi => ⟨_, (h.own i hi).slots⟩, fun i hi => (h.own i hi).parts, fun i hi j hj => ⟨_, (h.own i hi).data j hj⟩, fun i hi g e => by have := (owns_kind (h0.own i hi).slots g e).2.1; omega, fun i hi j hj g e => by have := (owns_kind ((h0.own i hi).data j hj) g e).2.1; omega, Only.refl _ _⟩
theorem SpJ.drew (h : SpJ B H k v K V W) : SpJ B H k v K V W.drew := by
  have hb : Below W.heap.size W W.drew := (Below.refl _ W).drew
  have ho : ∀ {t : TypeId} {size n : Nat} {v : Value} {xs : List Value}, W.ownsRow B t size v n xs → W.drew.ownsRow B t size v n xs := fun h1 => owns_at h1 (fun g e => hb.block g (owns_kind h1 g e).2.1)
  refine ⟨ho h.row, fun i hi => ?_, fun i hi => ho (h.parts i hi), fun i hi j hj => ?_, h.upS, h.upD, ⟨hb.os.trans h.span.os, hb.tape.trans h.span.tape, hb.output.trans h.span.output, Nat.le_trans h.span.size hb.size, fun g hg hn => (hb.block g (Nat.lt_of_lt_of_le hg h.span.size)).trans (h.span.block g hg hn)⟩⟩
  · obtain ⟨xs, hx⟩ := h.slots i hi
    exact ⟨xs, ho hx⟩
  · obtain ⟨xs, hx⟩ := h.data i hi j hj
    exact ⟨xs, ho hx⟩
theorem SpJ.setS (h : SpJ B H k v K V W) {i g : Nat} (hi : i < k) (hg : (slV (K i)).ownBlock = some g) (x : Nat) (u : Value) : SpJ B H k v K V (W.setCell ⟨g, x, none⟩ u) := by
  obtain ⟨xs0, h0⟩ := h.slots i hi
  obtain ⟨hlo, hl, cs, hk⟩ := owns_kind h0 g hg
  have hu := h.upS i hi g hg
  have hb : Below g W (W.setCell ⟨g, x, none⟩ u) := (Below.refl g W).setCell (Nat.le_refl _) _
  have ho : ∀ {t : TypeId} {size n : Nat} {v : Value} {xs : List Value}, t ≠ 41 → W.ownsRow B t size v n xs → (W.setCell ⟨g, x, none⟩ u).ownsRow B t size v n xs := fun ht h1 => owns_at h1 (fun b e => by
    obtain ⟨-, -, cs2, h2⟩ := owns_kind h1 b e
    exact Below.heap_setCell _ _ _ _ (ty_ne h2 hk ht))
  refine ⟨ho (by decide) h.row, fun i' hi' => ?_, fun i' hi' => ho (by decide) (h.parts i' hi'), fun i' hi' j hj => ?_, h.upS, h.upD, ⟨hb.os.trans h.span.os, hb.tape.trans h.span.tape, hb.output.trans h.span.output, Nat.le_trans h.span.size hb.size, fun b hb' hn => (Below.heap_setCell _ _ _ _ (fun e => hn (by rw [show b = g from e]; exact ⟨hlo, hu⟩))).trans (h.span.block b hb' hn)⟩⟩
  · obtain ⟨xs, hx⟩ := h.slots i' hi'
    by_cases e : (slV (K i')).ownBlock = some g
    · exact ⟨_, owns_setG hx e x u⟩
    · exact ⟨xs, owns_at hx (fun b e2 => Below.heap_setCell _ _ _ _ (fun e3 => e (by rw [← show b = g from e3]; exact e2)))⟩
  · obtain ⟨xs, hx⟩ := h.data i' hi' j hj
    exact ⟨xs, ho (by decide) hx⟩
theorem By_set (xs : List Int) (x : Nat) (z : Int) : (By xs).set x (.int .u8 z) = By (xs.set x z) := by
  unfold By
  rw [List.map_set]
theorem SpJ.setD (h : SpJ B H k v K V W) {i j g : Nat} (hi : i < k) (hj : j < (K i).bn) (hg : (daV ((K i).P j)).ownBlock = some g) (x : Nat) (z : Int) : SpJ B H k v K V (W.setCell ⟨g, x, none⟩ (.int .u8 z)) := by
  obtain ⟨xs0, h0⟩ := h.data i hi j hj
  obtain ⟨hlo, hl, cs, hk⟩ := owns_kind h0 g hg
  have hu := h.upD i hi j hj g hg
  have hb : Below g W (W.setCell ⟨g, x, none⟩ (.int .u8 z)) := (Below.refl g W).setCell (Nat.le_refl _) _
  have ho : ∀ {t : TypeId} {size n : Nat} {v : Value} {xs : List Value}, t ≠ 5 → W.ownsRow B t size v n xs → (W.setCell ⟨g, x, none⟩ (.int .u8 z)).ownsRow B t size v n xs := fun ht h1 => owns_at h1 (fun b e => by
    obtain ⟨-, -, cs2, h2⟩ := owns_kind h1 b e
    exact Below.heap_setCell _ _ _ _ (ty_ne h2 hk ht))
  refine ⟨ho (by decide) h.row, fun i' hi' => ?_, fun i' hi' => ho (by decide) (h.parts i' hi'), fun i' hi' j' hj' => ?_, h.upS, h.upD, ⟨hb.os.trans h.span.os, hb.tape.trans h.span.tape, hb.output.trans h.span.output, Nat.le_trans h.span.size hb.size, fun b hb' hn => (Below.heap_setCell _ _ _ _ (fun e => hn (by rw [show b = g from e]; exact ⟨hlo, hu⟩))).trans (h.span.block b hb' hn)⟩⟩
  · obtain ⟨xs, hx⟩ := h.slots i' hi'
    exact ⟨xs, ho (by decide) hx⟩
  · obtain ⟨xs, hx⟩ := h.data i' hi' j' hj'
    by_cases e : (daV ((K i').P j')).ownBlock = some g
    · have h1 := owns_setG hx e x (.int .u8 z)
      rw [By_set] at h1
      exact ⟨_, h1⟩
    · exact ⟨xs, owns_at hx (fun b e2 => Below.heap_setCell _ _ _ _ (fun e3 => e (by rw [← show b = g from e3]; exact e2)))⟩
theorem SpJ.below {w : World} (h : SpJ B H k v K V W) (hw : Below w.heap.size w V) (hB : w.heap.size ≤ B) : Below w.heap.size w W := hw.trans ⟨h.span.os, h.span.tape, h.span.output, h.span.size, fun b hb => h.span.block b (Nat.lt_of_lt_of_le hb hw.size) (fun hh => by have := hh.1; omega)⟩
theorem SpJ.beside {k2 : Nat} {v2 : Value} {K2 : Nat → NoV} (h : SpJ B H k v K V W) (h2 : AnsAt H k2 v2 K2 V) : AnsAt H k2 v2 K2 W := h2.kept (fun g h1 h3 => h.span.block g h3 (fun hh => by have := hh.2; omega))
/-- What a node of it is. -/
theorem SpJ.node {ao : Option Addr} {c : Nat} (h : SpJ B H k (.slice ao k c) K V W) {i : Nat} (hi : i < k) : ∃ ng, ao = some ⟨ng, 0, none⟩ ∧ W.cell? ⟨ng, i * 6 + 4, none⟩ = some (blV (K i)) ∧ W.cell? ⟨ng, i * 6 + 5, none⟩ = some (slV (K i)) ∧ ∃ cs, W.heap[ng]? = some (.cells cs 39 (0, 0)) := by
  obtain ⟨ng, c', e, -, -, hg, hcs⟩ := owns_some h.row (by omega)
  cases e
  have hL : i < ((List.range k).map K).length := by simpa using hi
  have h4 := (owns_cellG h.row hg (i * 6 + 4) (by omega)).1.trans (Ny_get _ i 4 hL (by omega))
  have h5 := (owns_cellG h.row hg (i * 6 + 5) (by omega)).1.trans (Ny_get _ i 5 hL (by omega))
  rw [map_getD hi] at h4 h5
  exact ⟨ng, rfl, h4, h5, hcs⟩
theorem SpJ.slot (h : SpJ B H k v K V W) {i j : Nat} (hi : i < k) (hj : j < (K i).sn) : ∃ g, (K i).so = some ⟨g, 0, none⟩ ∧ (slV (K i)).ownBlock = some g ∧ (∃ u, W.cell? ⟨g, j * 2, none⟩ = some u) ∧ W.frozen? ⟨g, j * 2, none⟩ = false ∧ (∃ u, W.cell? ⟨g, j * 2 + 1, none⟩ = some u) ∧ W.frozen? ⟨g, j * 2 + 1, none⟩ = false := by
  obtain ⟨xs, hx⟩ := h.slots i hi
  obtain ⟨g, c', e, -, -, hg, -⟩ := owns_some hx (by omega)
  unfold slV at e
  injection e with e1 e2 e3
  have hl : xs.length = (K i).sn * 2 := hx.1
  obtain ⟨k0, f0⟩ := owns_cellG hx hg (j * 2) (by omega)
  obtain ⟨k1, f1⟩ := owns_cellG hx hg (j * 2 + 1) (by omega)
  exact ⟨g, e1, hg, ⟨_, k0.trans (List.getElem?_eq_getElem (by omega))⟩, f0, ⟨_, k1.trans (List.getElem?_eq_getElem (by omega))⟩, f1⟩
theorem SpJ.part (h : SpJ B H k v K V W) {i j : Nat} (hi : i < k) (hj : j < (K i).bn) : ∃ g, (K i).bo = some ⟨g, 0, none⟩ ∧ W.cell? ⟨g, j * 2 + 1, none⟩ = some (daV ((K i).P j)) ∧ ∃ cs, W.heap[g]? = some (.cells cs 44 (0, 0)) := by
  have hx := h.parts i hi
  obtain ⟨g, c', e, -, -, hg, hcs⟩ := owns_some hx (by omega)
  unfold blV at e
  injection e with e1 e2 e3
  exact ⟨g, e1, (owns_cellG hx hg (j * 2 + 1) (by omega)).1.trans (flat2_get _ j hj).2, hcs⟩
theorem SpJ.byte (h : SpJ B H k v K V W) {i j t : Nat} (hi : i < k) (hj : j < (K i).bn) (ht : t < ((K i).P j).m) : ∃ g x, ((K i).P j).ao = some ⟨g, 0, none⟩ ∧ (daV ((K i).P j)).ownBlock = some g ∧ W.cell? ⟨g, t, none⟩ = some (.int .u8 x) ∧ W.frozen? ⟨g, t, none⟩ = false ∧ ∃ cs, W.heap[g]? = some (.cells cs 5 (0, 0)) := by
  obtain ⟨xs, hx⟩ := h.data i hi j hj
  obtain ⟨g, c', e, -, -, hg, hcs⟩ := owns_some hx (by omega)
  unfold daV at e
  injection e with e1 e2 e3
  have hl : (By xs).length = ((K i).P j).m * 1 := hx.1
  rw [By_length] at hl
  obtain ⟨k0, f0⟩ := owns_cellG hx hg t (by omega)
  have hb : (By xs)[t]? = some (.int .u8 (xs.getD t 0)) := by
    unfold By
    rw [List.getElem?_map, List.getElem?_eq_getElem (by omega), List.getD, List.getElem?_eq_getElem (by omega)]
    rfl
  exact ⟨g, _, e1, hg, k0.trans hb, f0, hcs⟩
end
end Go.Proofs.Ytbahbhaoimabdaa
