/-
  The model's get: what is put together.
-/
import Derived.Test.YtmbhjheoomlggaaCaMod3
namespace Go.Proofs.Ytmbhjheoomlggaa
open Go Go.Proofs Go.RowKit Go.Shelf
/-- A kept block as an object, with one pin more. -/
def kpO (x : Kb) (xg xc : Nat) : Obj := .cells #[.int .i64 x.num, .int .i64 ((x.pins : Int) + 1), .bool x.dirty, .slice (some ⟨xg, 0, none⟩) 1024 xc] 39
def kpV (x : Kb) (xg xc : Nat) : Value := .agg #[.int .i64 x.num, .int .i64 ((x.pins : Int) + 1), .bool x.dirty, .slice (some ⟨xg, 0, none⟩) 1024 xc]
theorem exec_oneK {ev : Operand → Value} {oi : Oper} {p : Operand} {x : Kb} {xg xc : Nat} {W : World} (ho : oi.op = .buildSlice 29 1 #[(0, p)]) (hx : ev p = kpV x xg xc) : (execOp ev oi).run Try.prog W = .ok (.value (.slice (some ⟨W.heap.size, 0, none⟩) 1 1)) (W.alloc (kpO x xg xc)) := by
  obtain ⟨i0, hi, hz0, hz1, hz2⟩ := info39p
  unfold execOp
  rw [ho]
  unfold kpV at hx
  simp only [hx, List.map_toArray, List.map_cons, List.map_nil]
  simp [Instr.buildSlice, run_underlying Try.underlying29, zeroValue, typeInfo, hi, hz0, hz1, newRow, Value.cells, Instr.fill, sizeOf, kpO]
  rw [show Array.range 4 = #[0, 1, 2, 3] from by decide]
  simp
/-- A row of one. -/
theorem one_row (W : World) (x : Kb) (xg xc : Nat) : (W.alloc (kpO x xg xc)).ownsRow W.heap.size 39 4 (.slice (some ⟨W.heap.size, 0, none⟩) 1 1) [(⟨x.by (x.pins + 1) x.dirty, xg, xc⟩ : Md)].length (mdCs [⟨x.by (x.pins + 1) x.dirty, xg, xc⟩]) :=
  ⟨rfl, .inr ⟨W.heap.size, 1, _, rfl, Nat.le_refl _, blk_new W _, Nat.le_refl _, by unfold maxLen; omega, rfl, rfl⟩⟩
section
variable {W0 : World} {g k vc : Nat} {ms : List Md} {v1 : Value} {x : Kb} {xg xc : Nat}
abbrev apR (a b v : Value) (W W' : World) : Prop := (Builtin.append_ #[29, 29] 29 #[a, b]).run Try.prog W = .ok v W'
theorem below_grown {B : Nat} {a b c : World} {row : Option Nat} (h : Below B a b) (hg : b.grownBy c row) (hB : B ≤ b.heap.size) (hr : ∀ q, row = some q → B ≤ q) : Below B a c := h.grown hg hB hr
/-- The head of the row, copied. -/
theorem cut_head {W : World} (hs : ∀ j u, (mdCs ms)[j]? = some u → W.cell? ((⟨g, 0, none⟩ : Addr).add j) = some u) (hk : k ≤ ms.length) (hl : ms.length ≤ 1000000) : ∃ v2 W2, apR (.slice none 0 0) (.slice (some ⟨g, 0, none⟩) k vc) v2 W W2 ∧ W2.ownsRow W.heap.size 39 4 v2 (ms.take k).length (mdCs (ms.take k)) ∧ Below W.heap.size W W2 := by
  obtain ⟨v2, W2, r2, o2, g2⟩ := kapp_nil W g 0 k vc (ms.take k) (by simp; omega) (by omega) (fun j u hj => by
    rw [← mdCs_take, List.getElem?_take] at hj
    split at hj
    · exact hs j u hj
    · cases hj)
  have e : (ms.take k).length = k := by simp; omega
  exact ⟨v2, W2, r2, by rw [e]; exact o2, (Below.refl _ W).grown g2 (Nat.le_refl _) (by simp)⟩
theorem cut_more {W : World} {B : Nat} {a b : Value} {xs ys : List Md} (h1 : W.ownsRow B 39 4 a xs.length (mdCs xs)) (h2 : W.ownsRow 0 39 4 b ys.length (mdCs ys)) (hB : B ≤ W.heap.size) (hl : xs.length + ys.length ≤ 1000000) : ∃ v W', apR a b v W W' ∧ W'.ownsRow B 39 4 v (xs ++ ys).length (mdCs (xs ++ ys)) ∧ Below B W W' := by
  obtain ⟨v, W', r, o, g⟩ := kapp_two W B a b xs ys h1 h2 hB hl
  exact ⟨v, W', r, o, (Below.refl _ W).grown g hB (fun q hq => (h1.lt q hq).1)⟩
theorem owns_below {W W' : World} {B b : Nat} {t : TypeId} {sz : Nat} {v : Value} {n : Nat} {xs : List Value} (h : W.ownsRow b t sz v n xs) (hB : Below B W W') (hb : ∀ q, v.ownBlock = some q → q < B) : W'.ownsRow b t sz v n xs := owns_at h (fun q hq => hB.block q (hb q hq))
theorem ord_a (hs : ∀ j u, (mdCs ms)[j]? = some u → W0.cell? ((⟨g, 0, none⟩ : Addr).add j) = some u) (hgl : g < W0.heap.size) (hk : k < ms.length) (hl : ms.length < 1000000) (h1 : W0.ownsRow 0 39 4 v1 (ms.drop (k + 1)).length (mdCs (ms.drop (k + 1)))) (hv1 : ∀ q, v1.ownBlock = some q → q < W0.heap.size) : ∃ v2 W2 v3 W3 v4 W4, apR (.slice none 0 0) (.slice (some ⟨g, 0, none⟩) k vc) v2 (W0.alloc (kpO x xg xc)) W2 ∧ apR v2 v1 v3 W2 W3 ∧ apR v3 (.slice (some ⟨W0.heap.size, 0, none⟩) 1 1) v4 W3 W4 ∧
    W4.ownsRow W0.heap.size 39 4 v4 (ms.take k ++ ms.drop (k + 1) ++ [(⟨x.by (x.pins + 1) x.dirty, xg, xc⟩ : Md)]).length (mdCs (ms.take k ++ ms.drop (k + 1) ++ [⟨x.by (x.pins + 1) x.dirty, xg, xc⟩])) ∧ Below W0.heap.size W0 (W0.alloc (kpO x xg xc)) ∧ Below W0.heap.size W0 W2 ∧ Below W0.heap.size W0 W3 ∧ Below W0.heap.size W0 W4 := by
  have b1 : Below W0.heap.size W0 (W0.alloc (kpO x xg xc)) := (Below.refl _ W0).alloc (Nat.le_refl _) _
  have s1 : (W0.alloc (kpO x xg xc)).heap.size = W0.heap.size + 1 := by simp
  have oX := one_row W0 x xg xc
  obtain ⟨v2, W2, r2, o2, c2⟩ := cut_head (W := W0.alloc (kpO x xg xc)) (vc := vc) (fun j u hj => by rw [b1.cell (p := (⟨g, 0, none⟩ : Addr).add j) (by rw [add_block]; exact hgl)]; exact hs j u hj) (Nat.le_of_lt hk) (by omega)
  have b2 : Below W0.heap.size W0 W2 := b1.trans (c2.mono (by omega))
  have oX2 := owns_below oX c2 (fun q hq => by have := (oX.lt q hq).2; omega)
  obtain ⟨v3, W3, r3, o3, c3⟩ := cut_more o2 (owns_below h1 b2 hv1) c2.size (by simp; omega)
  have b3 : Below W0.heap.size W0 W3 := b2.trans (c3.mono (by omega))
  have oX3 := owns_below oX2 c3 (fun q hq => by
    obtain rfl : W0.heap.size = q := by simpa [Value.ownBlock] using hq
    omega)
  obtain ⟨v4, W4, r4, o4, c4⟩ := cut_more (owns_base o3 (show W0.heap.size ≤ _ by omega)) (owns_base oX3 (Nat.zero_le _)) (b3.size) (by simp; omega)
  exact ⟨v2, W2, v3, W3, v4, W4, r2, r3, r4, o4, b1, b2, b3, b3.trans c4⟩
theorem ord_b (hs : ∀ j u, (mdCs ms)[j]? = some u → W0.cell? ((⟨g, 0, none⟩ : Addr).add j) = some u) (hk : k < ms.length) (hl : ms.length < 1000000) (h1 : W0.ownsRow 0 39 4 v1 (ms.drop (k + 1)).length (mdCs (ms.drop (k + 1)))) (hv1 : ∀ q, v1.ownBlock = some q → q < W0.heap.size) : ∃ v2 W2 v3 W3 v4 W4, apR (.slice none 0 0) (.slice (some ⟨g, 0, none⟩) k vc) v2 W0 W2 ∧ apR v2 v1 v3 (W2.alloc (kpO x xg xc)) W3 ∧ apR v3 (.slice (some ⟨W2.heap.size, 0, none⟩) 1 1) v4 W3 W4 ∧
    W4.ownsRow W0.heap.size 39 4 v4 (ms.take k ++ ms.drop (k + 1) ++ [(⟨x.by (x.pins + 1) x.dirty, xg, xc⟩ : Md)]).length (mdCs (ms.take k ++ ms.drop (k + 1) ++ [⟨x.by (x.pins + 1) x.dirty, xg, xc⟩])) ∧ Below W0.heap.size W0 W2 ∧ Below W0.heap.size W0 (W2.alloc (kpO x xg xc)) ∧ Below W0.heap.size W0 W3 ∧ Below W0.heap.size W0 W4 := by
  obtain ⟨v2, W2, r2, o2, c2⟩ := cut_head (W := W0) (vc := vc) hs (Nat.le_of_lt hk) (by omega)
  have oX := one_row W2 x xg xc
  have s1 : (W2.alloc (kpO x xg xc)).heap.size = W2.heap.size + 1 := by simp
  have b1 : Below W2.heap.size W2 (W2.alloc (kpO x xg xc)) := (Below.refl _ W2).alloc (Nat.le_refl _) _
  have b1' : Below W0.heap.size W0 (W2.alloc (kpO x xg xc)) := c2.trans (b1.mono c2.size)
  have o2' := owns_below o2 b1 (fun q hq => (o2.lt q hq).2)
  obtain ⟨v3, W3, r3, o3, g3⟩ := kapp_two (W2.alloc (kpO x xg xc)) W0.heap.size v2 v1 (ms.take k) (ms.drop (k + 1)) o2' (owns_below h1 b1' hv1) (by have := c2.size; omega) (by simp; omega)
  have b3 : Below W0.heap.size W0 W3 := b1'.grown g3 (by have := c2.size; omega) (fun q hq => (o2.lt q hq).1)
  have oX3 : W3.ownsRow 0 39 4 (.slice (some ⟨W2.heap.size, 0, none⟩) 1 1) [(⟨x.by (x.pins + 1) x.dirty, xg, xc⟩ : Md)].length (mdCs [⟨x.by (x.pins + 1) x.dirty, xg, xc⟩]) := by
    refine owns_base (owns_at oX (fun q hq => ?_)) (Nat.zero_le _)
    obtain rfl : W2.heap.size = q := by simpa [Value.ownBlock] using hq
    exact g3.block _ (by omega) (fun e => by have := (o2.lt _ e.symm).2; omega)
  obtain ⟨v4, W4, r4, o4, c4⟩ := cut_more o3 oX3 (b3.size) (by simp; omega)
  exact ⟨v2, W2, v3, W3, v4, W4, r2, r3, r4, o4, c2, b1', b3, b3.trans c4⟩
theorem ord_c (hs : ∀ j u, (mdCs ms)[j]? = some u → W0.cell? ((⟨g, 0, none⟩ : Addr).add j) = some u) (hk : k < ms.length) (hl : ms.length < 1000000) (h1 : W0.ownsRow 0 39 4 v1 (ms.drop (k + 1)).length (mdCs (ms.drop (k + 1)))) (hv1 : ∀ q, v1.ownBlock = some q → q < W0.heap.size) : ∃ v2 W2 v3 W3 v4 W4, apR (.slice none 0 0) (.slice (some ⟨g, 0, none⟩) k vc) v2 W0 W2 ∧ apR v2 v1 v3 W2 W3 ∧ apR v3 (.slice (some ⟨W3.heap.size, 0, none⟩) 1 1) v4 (W3.alloc (kpO x xg xc)) W4 ∧
    W4.ownsRow W0.heap.size 39 4 v4 (ms.take k ++ ms.drop (k + 1) ++ [(⟨x.by (x.pins + 1) x.dirty, xg, xc⟩ : Md)]).length (mdCs (ms.take k ++ ms.drop (k + 1) ++ [⟨x.by (x.pins + 1) x.dirty, xg, xc⟩])) ∧ Below W0.heap.size W0 W2 ∧ Below W0.heap.size W0 W3 ∧ Below W0.heap.size W0 (W3.alloc (kpO x xg xc)) ∧ Below W0.heap.size W0 W4 := by
  obtain ⟨v2, W2, r2, o2, c2⟩ := cut_head (W := W0) (vc := vc) hs (Nat.le_of_lt hk) (by omega)
  obtain ⟨v3, W3, r3, o3, c3⟩ := cut_more o2 (owns_below h1 c2 hv1) c2.size (by simp; omega)
  have b3 : Below W0.heap.size W0 W3 := c2.trans c3
  have oX := one_row W3 x xg xc
  have b1 : Below W3.heap.size W3 (W3.alloc (kpO x xg xc)) := (Below.refl _ W3).alloc (Nat.le_refl _) _
  have b4 : Below W0.heap.size W0 (W3.alloc (kpO x xg xc)) := b3.trans (b1.mono b3.size)
  obtain ⟨v4, W4, r4, o4, c4⟩ := cut_more (owns_below o3 b1 (fun q hq => (o3.lt q hq).2)) (owns_base oX (Nat.zero_le _)) b4.size (by simp; omega)
  exact ⟨v2, W2, v3, W3, v4, W4, r2, r3, r4, o4, c2, b3, b4, b4.trans c4⟩
end
end Go.Proofs.Ytmbhjheoomlggaa
