/-
  The reference's Release: the struct beside two new rows.
-/
import Derived.Test.YtoediflikoedaaaLkRe
namespace Go.Proofs.Ytoediflikoedaaa
open Go Go.Proofs Go.RowKit Go.Shelf
/-- The struct, and two new rows beside it; X: blocks that none of them has. -/
structure Rq (F X : Nat → Prop) (w W : World) (r : Nat) (R : Rf) (out row : Value) (oc rc : List Lk) : Prop where
  fz : ∃ Fz, RfAt Fz W r R ∧ (∀ k, Fz k → (F k ∨ w.heap.size ≤ k) ∧ k < W.heap.size) ∧ (∀ k, out.ownBlock = some k → ¬ Fz k) ∧ (∀ k, row.ownBlock = some k → ¬ Fz k) ∧ ∀ k, X k → ¬ Fz k
  o : SlOk W out oc
  ol : ∀ k, out.ownBlock = some k → w.heap.size ≤ k ∧ ¬ X k
  w' : SlOk W row rc
  wl : ∀ k, row.ownBlock = some k → w.heap.size ≤ k ∧ ¬ X k
  ow : ∀ k, out.ownBlock = some k → row.ownBlock ≠ some k
  xl : ∀ k, X k → k < W.heap.size
  only : Only F w W
section
variable {F X : Nat → Prop} {w W W' : World} {r : Nat} {R : Rf} {out row : Value} {oc rc : List Lk}
theorem Rq.below (h : Rq F X w W r R out row oc rc) (hB : Below W.heap.size W W') : Rq F X w W' r R out row oc rc := by
  obtain ⟨Fz, f1, f2, f3, f4, f5⟩ := h.fz
  exact ⟨⟨Fz, f1.below hB, fun k hk => ⟨(f2 k hk).1, Nat.lt_of_lt_of_le (f2 k hk).2 hB.size⟩, f3, f4, f5⟩, h.o.keep (fun k hk => hB.block k (h.o.lt' hk)), h.ol, h.w'.keep (fun k hk => hB.block k (h.w'.lt' hk)), h.wl, h.ow, fun k hk => Nat.lt_of_lt_of_le (h.xl k hk) hB.size, h.only.trans (Only.of_new F hB) (fun i hi => .inl hi)⟩
theorem Rq.free (h : Rq F X w W r R out row oc rc) : Rq F (fun _ => False) w W r R out row oc rc := by
  obtain ⟨Fz, f1, f2, f3, f4, f5⟩ := h.fz
  exact ⟨⟨Fz, f1, f2, f3, f4, fun k q => q.elim⟩, h.o, fun k hk => ⟨(h.ol k hk).1, id⟩, h.w', fun k hk => ⟨(h.wl k hk).1, id⟩, h.ow, fun k q => q.elim, h.only⟩
theorem Rq.box (h : Rq F (fun _ => False) w W r R out row oc rc) (ob : Obj) : Rq F (fun k => k = W.heap.size) w (W.alloc ob) r R out row oc rc := by
  have hB : Below W.heap.size W (W.alloc ob) := (Below.refl _ W).alloc (Nat.le_refl _) _
  obtain ⟨Fz, f1, f2, f3, f4, f5⟩ := h.fz
  have h' := h.below hB
  refine ⟨⟨Fz, f1.below hB, fun k hk => ⟨(f2 k hk).1, Nat.lt_of_lt_of_le (f2 k hk).2 hB.size⟩, f3, f4, fun k hk q => by have := (f2 k q).2; omega⟩, h'.o, fun k hk => ⟨(h.ol k hk).1, fun e => by have := h.o.lt' hk; omega⟩, h'.w', fun k hk => ⟨(h.wl k hk).1, fun e => by have := h.w'.lt' hk; omega⟩, h.ow, fun k hk => by simp; omega, h'.only⟩
theorem Rq.rf (h : Rq F X w W r R out row oc rc) : ∃ Fz, RfAt Fz W r R := by
  obtain ⟨Fz, f1, _⟩ := h.fz
  exact ⟨Fz, f1⟩
/-- append to the first of the two rows. -/
theorem rq_out (h : Rq F X w W r R out row oc rc) (l : Lk) (hn : oc.length ≤ 1000000) : ∃ ao c W', (Builtin.append_ #[27, 27] 27 #[out, .slice (some ⟨W.heap.size, 0, none⟩) 1 1]).run Try.prog (W.alloc (.cells (lkC l).toArray 31)) = .ok (.slice ao (oc.length + 1) c) W' ∧ Hid (Rq F X w W' r R (.slice ao (oc.length + 1) c) row (oc ++ [l]) rc ∧ ∀ k, X k → W'.heap[k]? = W.heap[k]?) := by
  obtain ⟨v', g', W', p1, p2, p3, p4, p5⟩ := appendl h.o l hn
  have hS : SlOk W' v' (oc ++ [l]) := .inr ⟨g', p2, p3⟩
  obtain ⟨ao, c, e⟩ : ∃ ao c, v' = .slice ao (oc.length + 1) c := by
    obtain ⟨ao, c, e⟩ := hS.slice
    exact ⟨ao, c, by rw [e]; simp⟩
  subst e
  obtain ⟨Fz, f1, f2, f3, f4, f5⟩ := h.fz
  have hgl : w.heap.size ≤ g' := p4.elim (fun q => (h.ol g' q).1) (fun q => by have := h.only.size; omega)
  have hgX : ¬ X g' := p4.elim (fun q => (h.ol g' q).2) (fun q e => by have := h.xl g' e; omega)
  have hgF : ¬ Fz g' := p4.elim (fun q => f3 g' q) (fun q e => by have := (f2 g' e).2; omega)
  have hgr : row.ownBlock ≠ some g' := p4.elim (fun q => h.ow g' q) (fun q e => by have := h.w'.lt' e; omega)
  have hk : ∀ k, k < W.heap.size → k ≠ g' → W'.heap[k]? = W.heap[k]? := fun k hk ne => p5.block k hk ne
  refine ⟨ao, c, W', p1, Hid.mk ⟨⟨⟨Fz, f1.keep (fun k hF hk' => hk k hk' (fun e => hgF (e ▸ hF))), fun k hk' => ⟨(f2 k hk').1, Nat.lt_of_lt_of_le (f2 k hk').2 p5.size⟩, fun k q => ?_, f4, f5⟩, hS, fun k q => ?_, h.w'.keep (fun k q => hk k (h.w'.lt' q) (fun e => hgr (by rw [← e]; exact q))), h.wl, fun k q => ?_, fun k q => Nat.lt_of_lt_of_le (h.xl k q) p5.size, h.only.trans p5 (fun i hi => .inr (by subst hi; exact hgl))⟩, fun k q => hk k (h.xl k q) (fun e => hgX (e ▸ q))⟩⟩
  · rw [p2] at q; cases q; exact hgF
  · rw [p2] at q; cases q; exact ⟨hgl, hgX⟩
  · rw [p2] at q; cases q; exact hgr
theorem Rq.swap (h : Rq F X w W r R out row oc rc) : Rq F X w W r R row out rc oc := by
  obtain ⟨Fz, f1, f2, f3, f4, f5⟩ := h.fz
  exact ⟨⟨Fz, f1, f2, f4, f3, f5⟩, h.w', h.wl, h.o, h.ol, fun k hk e => h.ow k e hk, h.xl, h.only⟩
theorem rq_row (h : Rq F X w W r R out row oc rc) (l : Lk) (hn : rc.length ≤ 1000000) : ∃ ao c W', (Builtin.append_ #[27, 27] 27 #[row, .slice (some ⟨W.heap.size, 0, none⟩) 1 1]).run Try.prog (W.alloc (.cells (lkC l).toArray 31)) = .ok (.slice ao (rc.length + 1) c) W' ∧ Hid (Rq F X w W' r R out (.slice ao (rc.length + 1) c) oc (rc ++ [l]) ∧ ∀ k, X k → W'.heap[k]? = W.heap[k]?) := by
  obtain ⟨ao, c, W', p1, p2⟩ := rq_out h.swap l hn
  exact ⟨ao, c, W', p1, Hid.mk ⟨p2.out.1.swap, p2.out.2⟩⟩
theorem rq_push (h : Rq F X w W r R out row oc rc) (l : Lk) (hn : R.held.length ≤ 1000000) {b : Nat} (hb : W.heap[b]? = some (lkO l)) (hbX : X b) :
    ∃ vo vc vo7 vc7 W7, (Builtin.append_ #[27, 27] 27 #[.slice vo R.held.length vc, .slice (some ⟨W.heap.size, 0, none⟩) 1 1]).run Try.prog (W.alloc (.cells (lkC l).toArray 31)) = .ok (.slice vo7 (R.held.length + 1) vc7) W7 ∧ Sx r 0 b l (.slice vo R.held.length vc) W ∧ Hid (Sx r 0 b l (.slice vo R.held.length vc) (W.alloc (.cells (lkC l).toArray 31))) ∧ Hid (Sx r 0 b l (.slice vo R.held.length vc) W7) ∧ Hid (W7.frozen? ⟨r, 0, none⟩ = false) ∧ Hid (Rq F X w (W7.setCell ⟨r, 0, none⟩ (.slice vo7 (R.held.length + 1) vc7)) r ⟨R.held ++ [l], R.row⟩ out row oc rc ∧ ∀ k, X k → (W7.setCell ⟨r, 0, none⟩ (.slice vo7 (R.held.length + 1) vc7)).heap[k]? = W.heap[k]?) := by
  obtain ⟨Fz, f1, f2, f3, f4, f5⟩ := h.fz
  obtain ⟨vo, vc, vo7, vc7, W7, a1, a2, a3, a4, a5, a6⟩ := rf_app0 f1 l hn hb (f5 b hbX)
  obtain ⟨q1, q2⟩ := a6.out
  refine ⟨vo, vc, vo7, vc7, W7, a1, a2, a3, a4, a5, Hid.mk ⟨?_, fun k hk => q2.block k (h.xl k hk) (f5 k hk)⟩⟩
  generalize W7.setCell ⟨r, 0, none⟩ (.slice vo7 (R.held.length + 1) vc7) = W8 at *
  have hs := h.only.size
  refine ⟨⟨fun k => (Fz k ∨ W.heap.size ≤ k) ∧ k < W8.heap.size, q1.mono (fun k hk g => ⟨g, hk⟩), fun k hk => ⟨hk.1.elim (fun e => (f2 k e).1) (fun e => .inr (by omega)), hk.2⟩, fun k hk e => e.1.elim (f3 k hk) (fun z => by have := h.o.lt' hk; omega), fun k hk e => e.1.elim (f4 k hk) (fun z => by have := h.w'.lt' hk; omega), fun k hk e => e.1.elim (f5 k hk) (fun z => by have := h.xl k hk; omega)⟩, h.o.keep (fun k hk => q2.block k (h.o.lt' hk) (f3 k hk)), h.ol, h.w'.keep (fun k hk => q2.block k (h.w'.lt' hk) (f4 k hk)), h.wl, h.ow, fun k hk => Nat.lt_of_lt_of_le (h.xl k hk) q2.size, h.only.trans q2 (fun i hi => (f2 i hi).1)⟩
theorem own_ne_r {V : World} {v : Value} {L : List Lk} {u1 u2 : Value} (hS : SlOk V v L) (h1 : V.heap[r]? = some (.cells #[u1, u2] 29 (0, 0))) : v.ownBlock ≠ some r := fun q => by
  rcases hS with ⟨rfl, _⟩ | ⟨g, hg, off, cap, cur, _, hc, _⟩
  · cases q
  · rw [hg] at q
    cases q
    rw [h1] at hc
    cases hc
/-- t.Row = row, at the end. -/
theorem rq_end (h : Rq F X w W r R out row oc rc) : (∃ u, W.cell? ⟨r, 1, none⟩ = some u) ∧ W.frozen? ⟨r, 1, none⟩ = false ∧ Hid (RfAt (Grown F w) (W.setCell ⟨r, 1, none⟩ row) r ⟨R.held, rc⟩ ∧ SlOk (W.setCell ⟨r, 1, none⟩ row) out oc ∧ Only F w (W.setCell ⟨r, 1, none⟩ row)) := by
  obtain ⟨Fz, ⟨vH, vR, h1, h2, h3, h4, h5, h6, h7⟩, f2, f3, f4, f5⟩ := h.fz
  have hk : ∀ k, k ≠ r → (W.setCell ⟨r, 1, none⟩ row).heap[k]? = W.heap[k]? := fun k hk => Below.heap_setCell _ _ _ _ hk
  refine ⟨⟨vR, by rw [blk_cell h1]; rfl⟩, blk_free h1 1, Hid.mk ⟨⟨vH, row, by rw [blk_set h1]; rfl, h2.keep (fun k q => hk k (fun e => own_ne_r h2 h1 (by rw [q, e]))), h.w'.keep (fun k q => hk k (fun e => own_ne_r h.w' h1 (by rw [q, e]))), (f2 r h4).1, fun k q => (f2 k (h5 k q)).1, fun k q => .inr (h.wl k q).1, fun k q e => f4 k e (h5 k q)⟩, h.o.keep (fun k q => hk k (fun e => own_ne_r h.o h1 (by rw [q, e]))), ?_⟩⟩
  exact h.only.setCell (p := ⟨r, 1, none⟩) ((f2 r h4).1) _
/-- t.Held = held, where held is new. -/
theorem rq_start {v : Value} {H : List Lk} (h : RfAt F w r R) (hF : ∀ k, F k → k < w.heap.size) (hB : Below w.heap.size w W) (hv : SlOk W v H) (hl : ∀ k, v.ownBlock = some k → w.heap.size ≤ k) : (∃ u, W.cell? ⟨r, 0, none⟩ = some u) ∧ W.frozen? ⟨r, 0, none⟩ = false ∧ Hid (Rq F (fun _ => False) w (W.setCell ⟨r, 0, none⟩ v) r ⟨H, R.row⟩ (.slice none 0 0) (.slice none 0 0) [] []) := by
  obtain ⟨vH, vR, h1, h2, h3, h4, h5, h6, h7⟩ := h.below hB
  have hk : ∀ k, k ≠ r → (W.setCell ⟨r, 0, none⟩ v).heap[k]? = W.heap[k]? := fun k hk => Below.heap_setCell _ _ _ _ hk
  have hsz : (W.setCell ⟨r, 0, none⟩ v).heap.size = W.heap.size := by simp
  refine ⟨⟨vH, by rw [blk_cell h1]; rfl⟩, blk_free h1 0, Hid.mk ⟨⟨fun k => F k ∨ v.ownBlock = some k, ⟨v, vR, by rw [blk_set h1]; rfl, hv.keep (fun k q => hk k (fun e => own_ne_r hv h1 (by rw [q, e]))), h3.keep (fun k q => hk k (fun e => own_ne_r h3 h1 (by rw [q, e]))), .inl h4, fun k q => .inr q, fun k q => .inl (h6 k q), fun k q e => ?_⟩, fun k q => ?_, fun k q => (by cases q), fun k q => (by cases q), fun k q => q.elim⟩, .inl ⟨rfl, rfl⟩, fun k q => (by cases q), .inl ⟨rfl, rfl⟩, fun k q => (by cases q), fun k q => (by cases q), fun k q => q.elim, ?_⟩⟩
  · have := hl k q
    have := hF k (h6 k e)
    omega
  · rw [hsz]
    rcases q with q | q
    · exact ⟨.inl q, Nat.lt_of_lt_of_le (hF k q) hB.size⟩
    · exact ⟨.inr (hl k q), hv.lt' q⟩
  · exact (Only.of_new F hB).setCell (p := ⟨r, 0, none⟩) (.inl h4) _
end
end Go.Proofs.Ytoediflikoedaaa
