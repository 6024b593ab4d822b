/-
  The reference's graph in memory.
-/
import Derived.Test.YthmbhcmicebcpaaDpRel3
namespace Go.Proofs.Ythmbhcmicebcpaa
open Go Go.Proofs Go.RowKit Go.Shelf
/-- A change of the reference: its buffer, its row as it lies, whether it is done. -/
structure Rc where
  buf : Int
  ov : Value
  dn : Bool
def rcC (c : Rc) : List Value := [.int .i64 c.buf, c.ov, .bool c.dn]
def Ry (L : List Rc) : List Value := L.flatMap rcC
def Rc.zero : Rc := ⟨0, .slice none 0 0, false⟩
theorem Ry_len (L : List Rc) : (Ry L).length = L.length * 3 := by
  induction L with
  | nil => rfl
  | cons c r ih => show (rcC c ++ Ry r).length = _; rw [List.length_append, ih]; simp [rcC]; omega
theorem Ry_app (L M : List Rc) : Ry (L ++ M) = Ry L ++ Ry M := by simp [Ry]
theorem Ry_get (L : List Rc) {i : Nat} (hi : i < L.length) : (Ry L)[i * 3]? = some (.int .i64 (L.getD i Rc.zero).buf) ∧ (Ry L)[i * 3 + 1]? = some (L.getD i Rc.zero).ov ∧ (Ry L)[i * 3 + 2]? = some (.bool (L.getD i Rc.zero).dn) := by
  induction L generalizing i with
  | nil => simp at hi
  | cons c r ih =>
    have e : Ry (c :: r) = rcC c ++ Ry r := rfl
    rw [e]
    cases i with
    | zero => exact ⟨rfl, rfl, rfl⟩
    | succ i =>
      have := ih (i := i) (by simpa using hi)
      have hl : (rcC c).length = 3 := rfl
      refine ⟨?_, ?_, ?_⟩
      · rw [List.getElem?_append_right (by omega), hl, show (i + 1) * 3 - 3 = i * 3 by omega]; exact this.1
      · rw [List.getElem?_append_right (by omega), hl, show (i + 1) * 3 + 1 - 3 = i * 3 + 1 by omega]; exact this.2.1
      · rw [List.getElem?_append_right (by omega), hl, show (i + 1) * 3 + 2 - 3 = i * 3 + 2 by omega]; exact this.2.2
/-- What a change hangs on, as it lies. -/
def OnAt (F : Nat → Prop) (W : World) (r : Nat) (v ov : Value) (xs : List Int) : Prop := ∃ ao m cc, ov = .slice ao m cc ∧ LAt W ao m xs ∧ m ≤ 1000000 ∧ ∀ a, ao = some a → 0 < m → F a.block ∧ a.block < W.heap.size ∧ a.block ≠ r ∧ v.ownBlock ≠ some a.block
/-- The graph at block r, its row v; F: the blocks that it may own. -/
structure RgAt (F : Nat → Prop) (W : World) (r : Nat) (v : Value) (G : Gp) : Prop where
  top : W.heap[r]? = some (.cells #[v] 32 (0, 0))
  fr : F r
  fv : ∀ k, v.ownBlock = some k → F k ∧ k ≠ r
  row : ∃ L, G.n = L.length ∧ W.ownsRow 0 34 3 v L.length (Ry L) ∧ (∀ j : Nat, j < L.length → G.buf j = (L.getD j Rc.zero).buf ∧ G.dn j = (L.getD j Rc.zero).dn ∧ OnAt F W r v (L.getD j Rc.zero).ov (G.on j))
section
variable {F : Nat → Prop} {W W' : World} {r : Nat} {v : Value} {G : Gp}
theorem OnAt.keep {ov : Value} {xs : List Int} (h : OnAt F W r v ov xs) (hs : W.heap.size ≤ W'.heap.size) (hk : ∀ k, F k → k < W.heap.size → k ≠ r → v.ownBlock ≠ some k → W'.heap[k]? = W.heap[k]?) : OnAt F W' r v ov xs := by
  obtain ⟨ao, m, cc, rfl, h1, h2, h3⟩ := h
  refine ⟨ao, m, cc, rfl, lat_keep h1 (fun a e h0 => ?_) hs, h2, fun a e h0 => ?_⟩
  · obtain ⟨q1, q2, q3, q4⟩ := h3 a e h0
    exact hk _ q1 q2 q3 q4
  · obtain ⟨q1, q2, q3, q4⟩ := h3 a e h0
    exact ⟨q1, Nat.lt_of_lt_of_le q2 hs, q3, q4⟩
theorem own_lt {n : Nat} {xs : List Value} {B : Nat} (h : W.ownsRow B 34 3 v n xs) {k : Nat} (hk : v.ownBlock = some k) : k < W.heap.size := by
  rcases h.2 with ⟨rfl, _⟩ | ⟨g, cap, cur, rfl, _, hg, _⟩
  · cases hk
  · cases hk; exact lt_of_block hg
theorem own_keep {n : Nat} {xs : List Value} {B : Nat} (h : W.ownsRow B 34 3 v n xs) (hk : ∀ k, v.ownBlock = some k → W'.heap[k]? = W.heap[k]?) : W'.ownsRow B 34 3 v n xs := by
  refine ⟨h.1, ?_⟩
  rcases h.2 with q | ⟨g, cap, cur, rfl, h1, hg, h2⟩
  · exact .inl q
  · exact .inr ⟨g, cap, cur, rfl, h1, (hk g rfl).trans hg, h2⟩
theorem RgAt.keep (h : RgAt F W r v G) (hs : W.heap.size ≤ W'.heap.size) (hk : ∀ k, F k → k < W.heap.size → W'.heap[k]? = W.heap[k]?) : RgAt F W' r v G := by
  obtain ⟨L, h1, h2, h3⟩ := h.row
  refine ⟨(hk r h.fr (lt_of_block h.top)).trans h.top, h.fr, h.fv, L, h1, own_keep h2 (fun k q => hk k (h.fv k q).1 (own_lt h2 q)), fun j hj => ⟨(h3 j hj).1, (h3 j hj).2.1, (h3 j hj).2.2.keep hs (fun k q1 q2 _ _ => hk k q1 q2)⟩⟩
theorem RgAt.below (h : RgAt F W r v G) (hB : Below W.heap.size W W') : RgAt F W' r v G := h.keep hB.size (fun k _ hk => hB.block k hk)
theorem RgAt.mono {F' : Nat → Prop} (h : RgAt F W r v G) (hF : ∀ k, k < W.heap.size → F k → F' k) : RgAt F' W r v G := by
  obtain ⟨L, h1, h2, h3⟩ := h.row
  refine ⟨h.top, hF r (lt_of_block h.top) h.fr, fun k q => ⟨hF k (own_lt h2 q) (h.fv k q).1, (h.fv k q).2⟩, L, h1, h2, fun j hj => ⟨(h3 j hj).1, (h3 j hj).2.1, ?_⟩⟩
  obtain ⟨ao, m, cc, e, a1, a2, a3⟩ := (h3 j hj).2.2
  refine ⟨ao, m, cc, e, a1, a2, fun a ea h0 => ?_⟩
  obtain ⟨q1, q2, q3, q4⟩ := a3 a ea h0
  exact ⟨hF _ q2 q1, q2, q3, q4⟩
theorem RgAt.cell (h : RgAt F W r v G) : W.cell? ⟨r, 0, none⟩ = some v := by rw [blk_cell h.top]; rfl
theorem RgAt.slice (h : RgAt F W r v G) : ∃ ao c, v = .slice ao G.n c ∧ G.n ≤ 9223372036854775807 := by
  obtain ⟨L, h1, h2, _⟩ := h.row
  rcases h2.2 with ⟨rfl, q⟩ | ⟨g, cap, cur, rfl, _, _, q1, q2, _⟩
  · rw [h1, q]; exact ⟨none, 0, rfl, by omega⟩
  · rw [h1]; exact ⟨_, cap, rfl, by unfold maxLen at q2; omega⟩
/-- The cells of the row. -/
theorem RgAt.at' (h : RgAt F W r v G) (h0 : 0 < G.n) : ∃ gb cap, v = .slice (some ⟨gb, 0, none⟩) G.n cap ∧ gb ≠ r ∧ F gb ∧ gb < W.heap.size ∧ (∀ j, W.frozen? ⟨gb, j, none⟩ = false) ∧ ∀ j : Nat, j < G.n → W.cell? ⟨gb, j * 3, none⟩ = some (.int .i64 (G.buf j)) ∧ (∃ ao m cc, W.cell? ⟨gb, j * 3 + 1, none⟩ = some (.slice ao m cc) ∧ LAt W ao m (G.on j) ∧ m ≤ 1000000) ∧ W.cell? ⟨gb, j * 3 + 2, none⟩ = some (.bool (G.dn j)) := by
  obtain ⟨L, h1, h2, h3⟩ := h.row
  rcases h2.2 with ⟨_, q⟩ | ⟨g, cap, cur, rfl, _, hg, q1, q2, q3, q4⟩
  · omega
  · refine ⟨g, cap, by rw [h1], (h.fv g rfl).2, (h.fv g rfl).1, lt_of_block hg, fun j => blk_free hg j, fun j hj => ?_⟩
    rw [h1] at hj
    obtain ⟨e1, e2, e3⟩ := Ry_get L hj
    have get : ∀ i, i < L.length * 3 → W.cell? ⟨g, i, none⟩ = (Ry L)[i]? := fun i hi => by
      rw [blk_cell hg, ← q4, List.getElem?_take, if_pos hi, Array.getElem?_toList]
    obtain ⟨a1, a2, ao, m, cc, a3, a4, a5, _⟩ := h3 j hj
    refine ⟨?_, ⟨ao, m, cc, ?_, a4, a5⟩, ?_⟩
    · rw [get _ (by omega), e1, a1]
    · rw [get _ (by omega), e2, a3]
    · rw [get _ (by omega), e3, a2]
end
/-- May a change be written now? -/
def mayB (G : Gp) (i : Int) : Bool := (G.on i).all (fun x => G.dn x) && !G.dn i
theorem may_iff {G : Gp} (hG : G.Ok) {i : Int} (hi : 0 ≤ i ∧ i < G.n) : mayB G i = true ↔ mayP G i := by
  unfold mayB mayP und hng und
  rw [Bool.and_eq_true, List.all_eq_true]
  constructor
  · rintro ⟨h1, h2⟩
    refine ⟨⟨hi, by simpa using h2⟩, fun x q => ?_⟩
    have := h1 x q.1
    rw [q.2.2] at this
    cases this
  · rintro ⟨h1, h2⟩
    refine ⟨fun x hx => ?_, by simp [h1.2]⟩
    have := hG.dag i x hi hx
    cases hd : G.dn x with
    | true => rfl
    | false => exact absurd ⟨hx, ⟨this.1, by omega⟩, hd⟩ (h2 x)
end Go.Proofs.Ythmbhcmicebcpaa
