/-
  The last of a heap's row is taken off: Pop of pile.
-/
import Derived.Test.YtjljklfahmjngaaPaPile
namespace Go.Proofs.Ytjljklfahmjngaa
open Go Go.Proofs Go.RowKit Go.Shelf
attribute [local go_sem] Oper.semAt_some
theorem owns_less {W : World} {base g n cap : Nat} {H : List (Int × Pt)} {s : Int × Pt} (h : W.ownsRow base 56 4 (.slice (some ⟨g, 0, none⟩) (n + 1) cap) (n + 1) (Sy (H ++ [s]))) : W.ownsRow base 56 4 (.slice (some ⟨g, 0, none⟩) n cap) n (Sy H) := by
  have hl := h.1
  rw [Sy_length] at hl
  have hl2 : H.length = n := by simp at hl; omega
  rcases h.2 with ⟨e, -⟩ | ⟨g', cap', cur, e, hg, hh, hnc, hm, hsz, ht⟩
  · cases e
  cases e
  refine ⟨by rw [Sy_length]; omega, .inr ⟨g, cap, cur, rfl, hg, hh, by omega, hm, hsz, ?_⟩⟩
  have h1 : (cur.toList.take ((n + 1) * 4)).take (n * 4) = (Sy (H ++ [s])).take (n * 4) := by rw [ht]
  rw [List.take_take, Nat.min_eq_left (by omega), Sy_append, List.take_append_of_le_length (by rw [Sy_length]; omega)] at h1
  rw [h1]
  exact List.take_of_length_le (by rw [Sy_length]; omega)
set_option maxRecDepth 100000 in
set_option maxHeartbeats 2000000 in
theorem ppop_any (w : World) (base b g n cap : Nat) (H : List (Int × Pt)) (s : Int × Pt) (hb : w.heap[b]? = some (.cells #[.slice (some ⟨g, 0, none⟩) (n + 1) cap] 47 (0, 0))) (h : w.ownsRow base 56 4 (.slice (some ⟨g, 0, none⟩) (n + 1) cap) (n + 1) (Sy (H ++ [s]))) (hgb : g ≠ b) (hn : n ≤ 1000) :
    Calls Try.prog 79 #[.pointer (some ⟨b, 0, none⟩)] w fun e w' => (∃ u, e = .returned u) ∧ Hid (w'.heap[b]? = some (.cells #[.slice (some ⟨g, 0, none⟩) n cap] 47 (0, 0)) ∧ w'.ownsRow base 56 4 (.slice (some ⟨g, 0, none⟩) n cap) n (Sy H) ∧ Only (fun k => k = b) w w') := by
  obtain ⟨g', cap', e, hg1, hglt, hlen, hc⟩ := owns_spots h (by omega)
  cases e
  obtain ⟨x0, x1, x2, x3⟩ := hc n (by omega)
  have hm0 : w.cell? ⟨b, 0, none⟩ = some (.slice (some ⟨g, 0, none⟩) (n + 1) cap) := by rw [blk_cell hb]; rfl
  have hf0 : w.frozen? ⟨b, 0, none⟩ = false := blk_free hb 0
  have hblt := lt_of_block hb
  have hcap : n + 1 ≤ cap := by
    rcases h.2 with ⟨e, -⟩ | ⟨g', cap', cur, e, hg, hh, hnc, hm, hsz, ht⟩
    · cases e
    · cases e; exact hnc
  obtain ⟨q, hq⟩ : ∃ q : Pt, q = ((H ++ [s]).getD n noS).2 := ⟨_, rfl⟩
  rw [← hq] at x1 x2 x3
  generalize ((H ++ [s]).getD n noS).1 = r at x0
  have x3' : w.cell? ⟨g, n * 4 + 3, none⟩ = some (.slice q.ao q.n q.c) := x3
  have hB1 : ∀ (V : World) (o : Obj), Below V.heap.size V (V.alloc o) := fun V o => (Below.refl _ V).alloc (Nat.le_refl _) _
  have HF : Hid (∀ o : Obj, ((w.setCell ⟨b, 0, none⟩ (.slice (some ⟨g, 0, none⟩) n cap)).alloc o).heap[b]? = some (.cells #[.slice (some ⟨g, 0, none⟩) n cap] 47 (0, 0)) ∧ ((w.setCell ⟨b, 0, none⟩ (.slice (some ⟨g, 0, none⟩) n cap)).alloc o).ownsRow base 56 4 (.slice (some ⟨g, 0, none⟩) n cap) n (Sy H) ∧ Only (fun k => k = b) w ((w.setCell ⟨b, 0, none⟩ (.slice (some ⟨g, 0, none⟩) n cap)).alloc o)) := Hid.mk (fun o => ⟨by
    rw [Below.heap_alloc _ _ _ (by simp; exact hblt), blk_set hb]
    rfl, owns_at (owns_less h) (fun k hk => by
      obtain rfl : g = k := Option.some.inj hk
      rw [Below.heap_alloc _ _ _ (by simp; exact hglt), Below.heap_setCell _ _ _ _ (by show g ≠ b; exact hgb)]), ((Only.refl (fun k => k = b) w).setCell (p := ⟨b, 0, none⟩) (.inl rfl) _).alloc o⟩)
  have u1 : IntKind.i64.wrap (((n + 1 : Nat) : Int) - 1) = (n : Int) := by rw [IntKind.wrap_i64]; omega
  have u2 : IntKind.i64.wrap (((n : Int) + 1) - 1) = (n : Int) := by rw [IntKind.wrap_i64]; omega
  have e1 : (⟨g, 0, none⟩ : Addr).add (n * 4) = ⟨g, n * 4, none⟩ := by rw [add_at]; simp
  have g1 : (n : Int) ≤ (cap : Int) := by omega
  have g2 : (n : Int) < ((n + 1 : Nat) : Int) := by omega
  clear h hc hb hlen hg1 hB1 hq x3 hcap
  go_enter Try.func79, Try.ntmps79
  go_wp2
  go_ret
  exact ⟨⟨_, rfl⟩, Hid.mk (HF.out _)⟩
end Go.Proofs.Ytjljklfahmjngaa
