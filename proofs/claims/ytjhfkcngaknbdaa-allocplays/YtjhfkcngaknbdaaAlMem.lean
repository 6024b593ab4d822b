/-
  A pool of things as it lies in memory.
-/
import Derived.Test.YtjhfkcngaknbdaaAlRound
import Derived.Test.YtjhfkcngaknbdaaBtRefWith
namespace Go.Proofs.Ytjhfkcngaknbdaa
open Go Go.Proofs Go.RowKit Go.Shelf

/-- A slice that lies in some other block than b, and is a row of group k. -/
structure RwAt (W : World) (b L S : Nat) (t : Nat → Bool) (k : Nat) (ao : Option Addr) (l c : Nat) (xs : List Int) : Prop where
  bat : BAt W ao L xs
  len : l = L
  row : RowIs L S t k xs
  none : ao = none → l = 0 ∧ c = 0
  apart : ∀ a, ao = some a → a.block ≠ b ∧ a.block < W.heap.size
/-- A pool of G groups of S things lies at place off of block b. -/
structure PlAt (W : World) (b off G S L : Nat) (t : Nat → Bool) : Prop where
  g8 : G ≤ 8
  blk : ∃ cs T, W.heap[b]? = some (.cells cs T (0, 0)) ∧ off + 10 ≤ cs.size
  c0 : W.cell? ⟨b, off, none⟩ = some (.int .i64 G)
  c1 : W.cell? ⟨b, off + 1, none⟩ = some (.int .i64 S)
  rows : ∀ k, k < G → ∃ ao l c xs, W.cell? ⟨b, off + 2 + k, none⟩ = some (.slice ao l c) ∧ RwAt W b L S t k ao l c xs
  all : ∀ k, k < 8 → ∃ ao l c, W.cell? ⟨b, off + 2 + k, none⟩ = some (.slice ao l c)
/-- The sizes of a pool. -/
structure Fit (G S L : Nat) : Prop where
  g : G ≤ 8
  s : S ≤ 1000
  l : S ≤ 8 * L
  m : L ≤ 1000
  p : 0 < G → 0 < S
/-- Of block b nothing has turned but places off + 2 to off + 9; of all other old blocks nothing. -/
structure Turned (b off : Nat) (w w' : World) : Prop where
  only : Only (fun k => k = b) w w'
  cell : ∀ i, (i < off + 2 ∨ off + 10 ≤ i) → w'.cell? ⟨b, i, none⟩ = w.cell? ⟨b, i, none⟩
  blk : ∀ cs T, w.heap[b]? = some (.cells cs T (0, 0)) → ∃ cs', w'.heap[b]? = some (.cells cs' T (0, 0)) ∧ cs'.size = cs.size
theorem Turned.refl (b off : Nat) (w : World) : Turned b off w w := ⟨Only.refl _ _, fun _ _ => rfl, fun cs _ h => ⟨cs, h, rfl⟩⟩
theorem Turned.trans {b off : Nat} {u v w : World} (h : Turned b off u v) (k : Turned b off v w) : Turned b off u w :=
  ⟨h.only.trans k.only (fun _ e => .inl e), fun i hi => (k.cell i hi).trans (h.cell i hi), fun cs T e => by
    obtain ⟨cs1, e1, s1⟩ := h.blk cs T e
    obtain ⟨cs2, e2, s2⟩ := k.blk cs1 T e1
    exact ⟨cs2, e2, s2.trans s1⟩⟩
theorem PlAt.lt {W : World} {b off G S L : Nat} {t : Nat → Bool} (h : PlAt W b off G S L t) : b < W.heap.size := by
  obtain ⟨cs, T, e, _⟩ := h.blk
  exact lt_of_block e
theorem Turned.of_below {b off B : Nat} {w w' : World} (h : Below B w w') (hb : b < B) (hB : B = w.heap.size) : Turned b off w w' := by
  subst hB
  have e : w'.heap[b]? = w.heap[b]? := h.block b hb
  exact ⟨Only.of_new _ h, fun i _ => World.cell?_of_block (w := w) e, fun cs T hc => ⟨cs, e.trans hc, rfl⟩⟩
theorem Turned.alloc {b off : Nat} {w w' : World} (h : Turned b off w w') (hb : b < w'.heap.size) (o : Obj) : Turned b off w (w'.alloc o) :=
  h.trans (Turned.of_below ((Below.refl _ w').alloc (Nat.le_refl _) o) hb rfl)
theorem Turned.drew {b off : Nat} {w w' : World} (h : Turned b off w w') : Turned b off w w'.drew := ⟨h.only.drew, h.cell, h.blk⟩
theorem RwAt.keep {W W' : World} {b L S : Nat} {t : Nat → Bool} {k : Nat} {ao : Option Addr} {l c : Nat} {xs : List Int} (h : RwAt W b L S t k ao l c xs) (ho : Only (fun k => k = b) W W') : RwAt W' b L S t k ao l c xs :=
  ⟨h.bat.only ho (fun a e _ => (h.apart a e).1), h.len, h.row, h.none, fun a e => ⟨(h.apart a e).1, Nat.lt_of_lt_of_le (h.apart a e).2 ho.size⟩⟩
/-- A pool beside the one that has turned, or below what is new. -/
theorem PlAt.beside {W W' : World} {b off off' G S L : Nat} {t : Nat → Bool} (h : PlAt W b off G S L t) (ht : Turned b off' W W') (ha : off + 10 ≤ off' + 2 ∨ off' + 10 ≤ off) : PlAt W' b off G S L t := by
  obtain ⟨cs, T, e, hs⟩ := h.blk
  obtain ⟨cs', e', hs'⟩ := ht.blk cs T e
  have h8 := h.g8
  refine ⟨h8, ⟨cs', T, e', by omega⟩, ?_, ?_, fun k hk => ?_, fun k hk => by (obtain ⟨ao, l, c, h1⟩ := h.all k hk; exact ⟨ao, l, c, by rw [ht.cell _ (by omega)]; exact h1⟩)⟩
  · rw [ht.cell _ (by omega)]; exact h.c0
  · rw [ht.cell _ (by omega)]; exact h.c1
  · obtain ⟨ao, l, c, xs, h1, h2⟩ := h.rows k hk
    exact ⟨ao, l, c, xs, by rw [ht.cell _ (by omega)]; exact h1, h2.keep ht.only⟩
theorem PlAt.below {W W' : World} {b off G S L : Nat} {t : Nat → Bool} (h : PlAt W b off G S L t) (hB : Below W.heap.size W W') : PlAt W' b off G S L t := by
  obtain ⟨cs, T, e, hs⟩ := h.blk
  have hb : W'.heap[b]? = W.heap[b]? := hB.block b h.lt
  refine ⟨h.g8, ⟨cs, T, hb.trans e, hs⟩, ?_, ?_, fun k hk => ?_, fun k hk => by (obtain ⟨ao, l, c, h1⟩ := h.all k hk; exact ⟨ao, l, c, by rw [World.cell?_of_block (w := W) hb]; exact h1⟩)⟩
  · rw [World.cell?_of_block (w := W) hb]; exact h.c0
  · rw [World.cell?_of_block (w := W) hb]; exact h.c1
  · obtain ⟨ao, l, c, xs, h1, h2⟩ := h.rows k hk
    exact ⟨ao, l, c, xs, by rw [World.cell?_of_block (w := W) hb]; exact h1, h2.keep (Only.of_new _ hB)⟩
theorem PlAt.free {W : World} {b off G S L : Nat} {t : Nat → Bool} (h : PlAt W b off G S L t) (i : Nat) : W.frozen? ⟨b, i, none⟩ = false := by
  obtain ⟨cs, T, e, hs⟩ := h.blk
  exact blk_free e i
/-- Cells of a block whose one cell is set. -/
theorem cell_set {W : World} {b i j : Nat} {cs : Array Value} {T : TypeId} {fr : Nat × Nat} {u : Value} (e : W.heap[b]? = some (.cells cs T fr)) : (W.setCell ⟨b, i, none⟩ u).cell? ⟨b, j, none⟩ = if i = j ∧ i < cs.size then some u else W.cell? ⟨b, j, none⟩ := by
  rw [blk_cell (blk_set e), blk_cell e]
  by_cases hij : i = j
  · subst hij
    by_cases hl : i < cs.size
    · simp [hl]
    · simp [hl]
  · simp [hij]
/-- A row of a pool is another one. -/
theorem PlAt.put {W : World} {b off G S L : Nat} {t : Nat → Bool} (h : PlAt W b off G S L t) {n k : Nat} {on : Bool} (hk : k < G) (hn : n / S = k) {ao : Option Addr} {l c : Nat} {xs : List Int}
    (hr : RwAt W b L S (updT t n on) k ao l c xs) : PlAt (W.setCell ⟨b, off + 2 + k, none⟩ (.slice ao l c)) b off G S L (updT t n on) ∧ Turned b off W (W.setCell ⟨b, off + 2 + k, none⟩ (.slice ao l c)) := by
  obtain ⟨cs, T, e, hs⟩ := h.blk
  have h8 := h.g8
  have hO : Only (fun j => j = b) W (W.setCell ⟨b, off + 2 + k, none⟩ (.slice ao l c)) := (Only.refl (fun j => j = b) W).setCell (p := ⟨b, off + 2 + k, none⟩) (.inl rfl) _
  refine ⟨⟨h8, ⟨_, T, blk_set e, by simpa using hs⟩, ?_, ?_, fun q hq => ?_, fun q hq => by (rw [cell_set e]; by_cases hc : off + 2 + k = off + 2 + q ∧ off + 2 + k < cs.size; exact ⟨ao, l, c, by rw [if_pos hc]⟩; obtain ⟨ao', l', c', h1⟩ := h.all q hq; exact ⟨ao', l', c', by rw [if_neg hc]; exact h1⟩)⟩, hO, fun i hi => ?_, fun cs' T' e' => ⟨_, blk_set e', by simp⟩⟩
  · rw [cell_set e, if_neg (by omega)]; exact h.c0
  · rw [cell_set e, if_neg (by omega)]; exact h.c1
  · by_cases hqk : q = k
    · subst hqk
      exact ⟨ao, l, c, xs, by rw [cell_set e, if_pos ⟨rfl, by omega⟩], hr.keep hO⟩
    · obtain ⟨ao', l', c', xs', h1, h2⟩ := h.rows q hq
      refine ⟨ao', l', c', xs', by rw [cell_set e, if_neg (by omega)]; exact h1, ?_⟩
      have h3 := h2.keep hO
      exact ⟨h3.bat, h3.len, h3.row.other (by rw [hn]; omega), h3.none, h3.apart⟩
  · rw [cell_set e, if_neg (by omega)]
end Go.Proofs.Ytjhfkcngaknbdaa
