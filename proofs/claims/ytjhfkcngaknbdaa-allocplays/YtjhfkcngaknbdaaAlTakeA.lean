/-
  The first free thing of a pool, from a group on.
-/
import Derived.Test.YtjhfkcngaknbdaaAlPool
namespace Go.Proofs.Ytjhfkcngaknbdaa
open Go Go.Proofs Go.RowKit Go.Shelf
attribute [local go_sem] Oper.semAt_some

theorem keeps_of_only {S : Nat → Prop} {W W' : World} (h : Only S W W') (hS : ∀ j, S j → IsC W j) : KeepsOthers W W' := by
  refine ⟨h.size, fun k o hk ho => ?_⟩
  rw [h.block k (Array.getElem?_eq_some_iff.1 hk).1 (fun hs => ?_), hk]
  obtain ⟨c, t, fr, hc⟩ := hS k hs
  rw [hk] at hc
  cases hc
  cases ho
theorem BAt.grown {W W' : World} {row : Option Nat} {ao : Option Addr} {n : Nat} {xs : List Int} (h : BAt W ao n xs) (hg : W.grownBy W' row) (hr : ∀ r, row = some r → ∃ o : Obj, W.heap[r]? = some o ∧ o.isCells = false) : BAt W' ao n xs := by
  refine ⟨h.1, fun hn => ?_⟩
  obtain ⟨a, e, hlt, hc⟩ := h.2 hn
  exact ⟨a, e, Nat.lt_of_lt_of_le hlt hg.size, fun i hi => cell_kept (hc i hi) hg hr⟩
theorem PlAt.grown {W W' : World} {row : Option Nat} {b off G S L : Nat} {t : Nat → Bool} (h : PlAt W b off G S L t) (hg : W.grownBy W' row) (hr : ∀ r, row = some r → ∃ o : Obj, W.heap[r]? = some o ∧ o.isCells = false) : PlAt W' b off G S L t := by
  obtain ⟨cs, T, e, hs⟩ := h.blk
  refine ⟨h.g8, ⟨cs, T, Bt.keep_cells e hg hr, hs⟩, cell_kept h.c0 hg hr, cell_kept h.c1 hg hr, fun k hk => ?_, fun k hk => by (obtain ⟨ao, l, c, h1⟩ := h.all k hk; exact ⟨ao, l, c, cell_kept h1 hg hr⟩)⟩
  obtain ⟨ao, l, c, xs, h1, h2⟩ := h.rows k hk
  exact ⟨ao, l, c, xs, cell_kept h1 hg hr, h2.bat.grown hg hr, h2.len, h2.row, h2.none, fun a ea => ⟨(h2.apart a ea).1, Nat.lt_of_lt_of_le (h2.apart a ea).2 hg.size⟩⟩
theorem Turned.grown {w W W' : World} {row : Option Nat} {b off : Nat} (h : Turned b off w W) (hb : b < w.heap.size) (hg : W.grownBy W' row) (hr : ∀ r, row = some r → w.heap.size ≤ r) : Turned b off w W' := by
  have e : W'.heap[b]? = W.heap[b]? := hg.block b (Nat.lt_of_lt_of_le hb h.only.size) (fun e => by have := hr b e.symm; omega)
  exact ⟨h.only.grown hg (fun k ek => .inr (hr k ek)), fun i hi => (World.cell?_of_block (w := W) e).trans (h.cell i hi), fun cs T hc => by
    obtain ⟨cs', h1, h2⟩ := h.blk cs T hc
    exact ⟨cs', e.trans h1, h2⟩⟩
theorem Turned.setNew {w W : World} {b off : Nat} (h : Turned b off w W) (hb : b < w.heap.size) {p : Addr} (hp : w.heap.size ≤ p.block) (u : Value) : Turned b off w (W.setCell p u) := by
  have e : (W.setCell p u).heap[b]? = W.heap[b]? := Below.heap_setCell _ _ _ _ (by omega)
  exact ⟨h.only.setCell (.inr hp) u, fun i hi => (World.cell?_of_block (w := W) e).trans (h.cell i hi), fun cs T hc => by
    obtain ⟨cs', h1, h2⟩ := h.blk cs T hc
    exact ⟨cs', e.trans h1, h2⟩⟩
/-- A block of one's own that is set leaves a pool as it is. -/
theorem PlAt.setNew {W : World} {b off G S L : Nat} {t : Nat → Bool} (h : PlAt W b off G S L t) {p : Addr} (hpb : p.block ≠ b) (hx : ∀ k ao l c xs, RwAt W b L S t k ao l c xs → ∀ a, ao = some a → a.block ≠ p.block) (u : Value) : PlAt (W.setCell p u) b off G S L t := by
  obtain ⟨cs, T, e, hs⟩ := h.blk
  have hb : (W.setCell p u).heap[b]? = W.heap[b]? := Below.heap_setCell _ _ _ _ (Ne.symm hpb)
  refine ⟨h.g8, ⟨cs, T, hb.trans e, hs⟩, (World.cell?_of_block (w := W) hb).trans h.c0, (World.cell?_of_block (w := W) hb).trans h.c1, fun k hk => ?_, fun k hk => by (obtain ⟨ao, l, c, h1⟩ := h.all k hk; exact ⟨ao, l, c, (World.cell?_of_block (w := W) hb).trans h1⟩)⟩
  obtain ⟨ao, l, c, xs, h1, h2⟩ := h.rows k hk
  refine ⟨ao, l, c, xs, (World.cell?_of_block (w := W) hb).trans h1, ⟨h2.bat.kept (fun a ea _ => Below.heap_setCell _ _ _ _ (hx k ao l c xs h2 a ea)), h2.len, h2.row, h2.none, fun a ea => ⟨(h2.apart a ea).1, ?_⟩⟩⟩
  have := (h2.apart a ea).2
  simpa [World.setCell] using this
/-- What stands there is written again. -/
theorem set_back {W : World} {b : Nat} {v : Value} {T : TypeId} (h : W.heap[b]? = some (.cells #[v] T (0, 0))) : W.setCell ⟨b, 0, none⟩ v = W := by
  have e : ∀ k : Nat, (W.setCell ⟨b, 0, none⟩ v).heap[k]? = W.heap[k]? := fun k => by
    by_cases hk : k = b
    · subst hk
      rw [blk_set h, h]
      simp
    · exact Below.heap_setCell _ _ _ _ hk
  have e2 : (W.setCell ⟨b, 0, none⟩ v).heap = W.heap := Array.ext_getElem? (fun k => e k)
  cases W
  unfold World.setCell at e2 ⊢
  simp only at e2 ⊢
  rw [e2]
/-- Rows of a pool are rows of bytes, or empty: a cell that holds something else is none of theirs. -/
theorem RwAt.not_at {W : World} {b L S k l c j : Nat} {t : Nat → Bool} {ao : Option Addr} {xs : List Int} (h : RwAt W b L S t k ao l c xs) {v : Value} {T0 : TypeId} (hj : W.heap[j]? = some (.cells #[v] T0 (0, 0))) (hv : ∀ x, v ≠ .int .u8 x) (hL : 0 < L) : ∀ a, ao = some a → a.block ≠ j := by
  rintro a ea rfl
  obtain ⟨a', e', _, hc⟩ := h.bat.2 hL
  rw [ea] at e'
  cases e'
  have h0 := hc 0 hL
  rw [World.cell?_of_block (w := W) rfl] at h0
  have : (a.add 0).block = a.block := add_block a 0
  unfold World.cell? at h0
  rw [this, hj] at h0
  revert h0
  cases (a.add 0).spot with
  | none =>
    simp only
    rcases Nat.eq_zero_or_pos (a.add 0).off with h1 | h1
    · rw [h1]
      simp
      intro h2
      exact absurd h2 (hv _)
    · rw [Array.getElem?_eq_none (by simp; omega)]
      simp
  | some s => simp
end Go.Proofs.Ytjhfkcngaknbdaa
