/-
  The last change of a row gets a byte more, where it lies: out[k].New = append(out[k].New, x).
-/
import Derived.Test.YtjljklfahmjngaaPaSee
namespace Go.Proofs.Ytjljklfahmjngaa
open Go Go.Proofs Go.RowKit Go.Shelf
theorem Py_set (M : List Pt) (p q : Pt) (h1 : q.id = p.id) (h2 : q.at' = p.at') : (Py (M ++ [p])).set (M.length * 3 + 2) q.val = Py (M ++ [q]) := by
  rw [Py_append, Py_append, List.set_append_right _ _ (by rw [Py_length]; omega), Py_length, show M.length * 3 + 2 - M.length * 3 = 2 by omega]
  congr 1
  show [Value.int .i64 p.id, .int .i64 p.at', q.val] = [Value.int .i64 q.id, .int .i64 q.at', q.val]
  rw [h1, h2]
/-- append(b, x). -/
theorem appendb_run (W : World) (B : Nat) (v : Value) (n : Nat) (xs : List Int) (x : Int) (hown : W.ownsRow B 5 1 v n (By xs)) (hB : B ≤ W.heap.size) (hn : n ≤ 1000000) :
    ∃ v' W', (Builtin.append_ #[22, 22] 22 #[v, .slice (some ⟨W.heap.size, 0, none⟩) 1 1]).run Try.prog (W.alloc (.cells #[.int .u8 x] 5)) = .ok v' W' ∧ W'.ownsRow B 5 1 v' (n + 1) (By (xs ++ [x])) ∧ (W.alloc (.cells #[.int .u8 x] 5)).grownBy W' v.ownBlock := by
  obtain ⟨i0, hi, hz0, hz1, hz2⟩ := info5p
  have hnew := blk_new W (.cells #[.int .u8 x] 5)
  obtain ⟨v3, W3, hr, hown3, hg3, _⟩ := run_append_own (P := Try.prog) (W.alloc (.cells #[.int .u8 x] 5)) B 22 22 5 i0 (.int .u8 0) 1 1 Try.underlying22 hi hz0 hz1 hz2 rfl (by decide) v n (By xs) (hown.alloc _) ⟨W.heap.size, 0, none⟩ 1 1 (By [x]) rfl (fun j u hj => by
    match j, hj with
    | 0, hj => cases hj; rw [add_at, blk_cell hnew]; rfl) (By_one _) (by unfold maxLen; omega) (by omega) (by simp; omega)
  have e : By xs ++ By [x] = By (xs ++ [x]) := by simp [By]
  rw [e] at hown3
  exact ⟨v3, W3, hr, hown3, hg3⟩
/-- A row of changes whose last one may grow: the bytes of the others lie below B. -/
structure GwAt (W : World) (base B : Nat) (v : Value) (M : List Pt) (p : Pt) : Prop where
  all : MkAt W base v (M ++ [p])
  le : base ≤ B ∧ B ≤ W.heap.size
  low : ∀ q ∈ M, ∀ k, q.val.ownBlock = some k → k < B
  own : W.ownsRow B 5 1 p.val p.n (By p.xs)
theorem GwAt.step {W : World} {base B : Nat} {v : Value} {M : List Pt} {p : Pt} (h : GwAt W base B v M p) (hl : M.length ≤ 100000) (hpl : p.n ≤ 100000) (x : Int) (hx : 0 ≤ x ∧ x ≤ 255) :
    ∃ g cap v1 W1 ao1 c1, v = .slice (some ⟨g, 0, none⟩) (M.length + 1) cap ∧ base ≤ g ∧ g < W.heap.size ∧ v1 = .slice ao1 (p.n + 1) c1 ∧
      (Builtin.append_ #[22, 22] 22 #[p.val, .slice (some ⟨W.heap.size, 0, none⟩) 1 1]).run Try.prog (W.alloc (.cells #[.int .u8 x] 5)) = .ok v1 W1 ∧
      (∀ A : World, A.heap[g]? = W.heap[g]? → A.cell? ⟨g, M.length * 3 + 2, none⟩ = some p.val ∧ A.frozen? ⟨g, M.length * 3 + 2, none⟩ = false) ∧ W1.heap[g]? = W.heap[g]? ∧ Below base W W1 ∧
      GwAt (W1.setCell ⟨g, M.length * 3 + 2, none⟩ v1) base B v M ⟨p.id, p.at', ao1, p.n + 1, c1, p.xs ++ [x]⟩ ∧ Below base W (W1.setCell ⟨g, M.length * 3 + 2, none⟩ v1) := by
  have hlen : (M ++ [p]).length = M.length + 1 := by simp
  have hrow := h.all.1
  rw [hlen] at hrow
  rcases hrow.2 with ⟨-, h0⟩ | ⟨g, cap, cur, rfl, hg, hh, hnc, hm, hsz, ht⟩
  · omega
  have hglt := lt_of_block hh
  obtain ⟨v1, W1, hr, hown1, hg1⟩ := appendb_run W B p.val p.n p.xs x h.own h.le.2 (by omega)
  obtain ⟨ao1, c1, hv1, -⟩ := owns_BAt hown1
  have hsa : (W.alloc (.cells #[.int .u8 x] 5)).heap.size = W.heap.size + 1 := by simp
  have kp : ∀ j, j < W.heap.size → p.val.ownBlock ≠ some j → W1.heap[j]? = W.heap[j]? := fun j hj hn => (hg1.block j (by omega) (fun e => hn e.symm)).trans (Below.heap_alloc _ _ _ hj)
  have hgp : p.val.ownBlock ≠ some g := fun e => owns_apart h.own hrow (by decide) g e rfl
  have hW1g : W1.heap[g]? = W.heap[g]? := kp g hglt hgp
  have hcell : cur[M.length * 3 + 2]? = some p.val := by
    have e1 := (Py_get (M ++ [p]) M.length (by simp)).2.2
    rw [← ht, List.getElem?_take, if_pos (by omega), Array.getElem?_toList] at e1
    rw [e1]
    simp [List.getD]
  have hlow : Below base W W1 := ⟨hg1.os, hg1.tape, hg1.output, by have := hg1.size; omega, fun j hj => kp j (by have := h.le; omega) (fun e => by have := (h.own.lt j e).1; have := h.le; omega)⟩
  have hlt1 : g < W1.heap.size := by have := hlow.size; omega
  refine ⟨g, cap, v1, W1, ao1, c1, rfl, hg, hglt, hv1, hr, fun A hA => ?_, hW1g, hlow, ?_, hlow.setCell (p := ⟨g, M.length * 3 + 2, none⟩) hg _⟩
  · rw [hh] at hA
    exact ⟨by rw [blk_cell hA]; exact hcell, blk_free hA _⟩
  have hh1 : W1.heap[g]? = some (.cells cur 31 (0, 0)) := hW1g.trans hh
  have e2 : ∀ j, j ≠ g → (W1.setCell ⟨g, M.length * 3 + 2, none⟩ v1).heap[j]? = W1.heap[j]? := fun j hj => Below.heap_setCell _ _ _ _ hj
  have hs2 : (W1.setCell ⟨g, M.length * 3 + 2, none⟩ v1).heap.size = W1.heap.size := by simp
  have hv1o : ∀ j, v1.ownBlock = some j → j ≠ g := fun j hj e => by
    subst e
    have ho : W1.ownsRow base 31 3 (.slice (some ⟨j, 0, none⟩) (M.length + 1) cap) (M.length + 1) (Py (M ++ [p])) := owns_at hrow (fun k hk => by obtain rfl := Option.some.inj hk; exact hW1g)
    exact owns_apart hown1 ho (by decide) j hj rfl
  have hown2 : (W1.setCell ⟨g, M.length * 3 + 2, none⟩ v1).ownsRow B 5 1 v1 (p.n + 1) (By (p.xs ++ [x])) := owns_at hown1 (fun j hj => e2 j (hv1o j hj))
  refine ⟨⟨?_, fun q hq => ?_⟩, ⟨h.le.1, by have := h.le; have := hlow.size; omega⟩, h.low, ?_⟩
  · rw [List.length_append]
    refine ⟨by rw [Py_length]; simp, .inr ⟨g, cap, cur.setIfInBounds (M.length * 3 + 2) v1, rfl, hg, blk_set hh1, hnc, hm, by simpa using hsz, ?_⟩⟩
    have hps := Py_set M p ⟨p.id, p.at', ao1, p.n + 1, c1, p.xs ++ [x]⟩ rfl rfl
    rw [Array.toList_setIfInBounds, List.take_set]
    have e3 : List.take ((M.length + [(⟨p.id, p.at', ao1, p.n + 1, c1, p.xs ++ [x]⟩ : Pt)].length) * 3) cur.toList = Py (M ++ [p]) := ht
    rw [e3, hv1]
    exact hps
  · rcases List.mem_append.1 hq with hq | hq
    · obtain ⟨q1, q2⟩ := h.all.2 q (List.mem_append.2 (.inl hq))
      refine ⟨owns_at q1 (fun j hj => ?_), q2⟩
      have hlt := (q1.lt j hj).2
      rw [e2 j (fun e => by subst e; exact owns_apart q1 hrow (by decide) j hj rfl)]
      exact kp j hlt (fun e => by have := (h.own.lt j e).1; have := h.low q hq j hj; omega)
    · obtain rfl := List.mem_singleton.1 hq
      obtain ⟨q1, q2, q3, q4⟩ := h.all.2 p (by simp)
      refine ⟨owns_base ?_ h.le.1, q2, q3, fun y hy => ?_⟩
      · show (W1.setCell ⟨g, M.length * 3 + 2, none⟩ v1).ownsRow B 5 1 (.slice ao1 (p.n + 1) c1) (p.n + 1) (By (p.xs ++ [x]))
        rw [← hv1]
        exact hown2
      · rcases List.mem_append.1 hy with hy | hy
        · exact q4 y hy
        · rw [List.mem_singleton.1 hy]
          exact hx
  · show (W1.setCell ⟨g, M.length * 3 + 2, none⟩ v1).ownsRow B 5 1 (.slice ao1 (p.n + 1) c1) (p.n + 1) (By (p.xs ++ [x]))
    rw [← hv1]
    exact hown2
/-- A new one, which has no bytes yet. -/
theorem MkAt.begin {W : World} {base : Nat} {v : Value} {L : List Pt} (h : MkAt W base v L) (hb : base ≤ W.heap.size) (hl : L.length < 1000000) (i a : Int) (hi : I64 i) (ha : I64 a) :
    ∃ v' W', (Builtin.append_ #[23, 23] 23 #[v, .slice (some ⟨W.heap.size, 0, none⟩) 1 1]).run Try.prog (W.alloc (.cells #[.int .i64 i, .int .i64 a, .slice none 0 0] 31)) = .ok v' W' ∧ (∃ ao c, v' = .slice ao (L.length + 1) c) ∧ GwAt W' base W.heap.size v' L ⟨i, a, none, 0, 0, []⟩ ∧ Below base W W' := by
  obtain ⟨v', W', hr, hm, hB⟩ := h.push hb hl ⟨i, a, none, 0, 0, []⟩ (World.ownsRow_nil _ _ _ _) ⟨hi, ha, fun x hx => by cases hx⟩
  obtain ⟨ao, c, e, -⟩ := hm.pc
  rw [List.length_append] at e
  exact ⟨v', W', hr, ⟨ao, c, e⟩, ⟨hm, ⟨hb, hB.size⟩, fun q hq k hk => ((h.2 q hq).1.lt k hk).2, World.ownsRow_nil _ _ _ _⟩, hB⟩
end Go.Proofs.Ytjljklfahmjngaa
