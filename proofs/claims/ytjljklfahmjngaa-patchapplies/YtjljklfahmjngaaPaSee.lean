/-
  Changes by what they are alone: their number, their place, their bytes.
-/
import Derived.Test.YtjljklfahmjngaaPaApply
import Derived.Test.YtjljklfahmjngaaPaDiff
namespace Go.Proofs.Ytjljklfahmjngaa
open Go Go.Proofs Go.RowKit Go.Shelf
def keptS (S : List (Int × Int × List Int)) (outs : List Int) : List (Int × Int × List Int) := S.filter (fun s => !decide (s.1 ∈ outs))
def applyS (bs : List Int) (S : List (Int × Int × List Int)) : List Int := S.foldl (fun b s => layL b s.2.1 s.2.2) bs
theorem apply_see (bs : List Int) (M : List Pt) : applyL bs M = applyS bs (M.map Pt.see) := by
  unfold applyL applyS
  rw [List.foldl_map]
  rfl
theorem kept_see (L : List Pt) (outs : List Int) : (keptL L outs).map Pt.see = keptS (L.map Pt.see) outs := by
  unfold keptL keptS
  rw [List.filter_map]
  rfl
theorem applyS_append (bs : List Int) (S T : List (Int × Int × List Int)) : applyS bs (S ++ T) = applyS (applyS bs S) T := by
  unfold applyS
  rw [List.foldl_append]
theorem keptS_append (S T : List (Int × Int × List Int)) (outs : List Int) : keptS (S ++ T) outs = keptS S outs ++ keptS T outs := by
  unfold keptS
  rw [List.filter_append]
theorem keptS_nil (S : List (Int × Int × List Int)) : keptS S [] = S := by
  unfold keptS
  rw [List.filter_eq_self]
  intro s _
  simp
/-- Rows of changes that were made: the row, and the bytes of each. -/
def MkAt (W : World) (base : Nat) (v : Value) (L : List Pt) : Prop := W.ownsRow base 31 3 v L.length (Py L) ∧ ∀ p ∈ L, W.ownsRow base 5 1 p.val p.n (By p.xs) ∧ I64 p.id ∧ I64 p.at' ∧ ∀ x ∈ p.xs, 0 ≤ x ∧ x ≤ 255
theorem MkAt.nil (W : World) (base : Nat) : MkAt W base (.slice none 0 0) [] := ⟨World.ownsRow_nil _ _ _ _, fun p hp => by cases hp⟩
theorem MkAt.kept {W W' : World} {base : Nat} {v : Value} {L : List Pt} (h : MkAt W base v L) (hk : ∀ j, base ≤ j → j < W.heap.size → W'.heap[j]? = W.heap[j]?) : MkAt W' base v L :=
  ⟨owns_at h.1 (fun j hj => hk j (h.1.lt j hj).1 (h.1.lt j hj).2), fun p hp => ⟨owns_at (h.2 p hp).1 (fun j hj => hk j ((h.2 p hp).1.lt j hj).1 ((h.2 p hp).1.lt j hj).2), (h.2 p hp).2⟩⟩
theorem MkAt.pc {W : World} {base : Nat} {v : Value} {L : List Pt} (h : MkAt W base v L) : ∃ ao c, v = .slice ao L.length c ∧ PcAt W ao L.length L ∧ PnAt W L := by
  obtain ⟨ao, c, e, hp, -⟩ := owns_PcAt h.1
  refine ⟨ao, c, e, hp, fun p hp => ?_⟩
  obtain ⟨h1, h2, h3, h4⟩ := h.2 p hp
  obtain ⟨ao', c', e', hb, -⟩ := owns_BAt h1
  have e2 : p.ao = ao' ∧ p.c = c' := by
    have : Value.slice p.ao p.n p.c = .slice ao' p.n c' := e'
    cases this
    exact ⟨rfl, rfl⟩
  refine ⟨by rw [e2.1]; exact hb, ?_, h2, h3, h4, ?_⟩
  · intro hn
    rcases h1.2 with ⟨e0, h0⟩ | ⟨g, cap, cur, e0, _⟩
    · have : Value.slice p.ao p.n p.c = .slice none 0 0 := e0
      injection this with a1 a2 a3
      exact ⟨a2, a3⟩
    · have : Value.slice p.ao p.n p.c = .slice (some ⟨g, 0, none⟩) p.n cap := e0
      injection this with a1 a2 a3
      rw [hn] at a1
      cases a1
  · rcases h1.2 with ⟨e0, h0⟩ | ⟨g, cap, cur, e0, hg, hh, hnc, hm, _⟩
    · have : Value.slice p.ao p.n p.c = .slice none 0 0 := e0
      injection this with a1 a2 a3
      omega
    · have : Value.slice p.ao p.n p.c = .slice (some ⟨g, 0, none⟩) p.n cap := e0
      injection this with a1 a2 a3
      unfold maxLen at hm
      omega
/-- One change more, whose bytes were made. -/
theorem MkAt.push {W : World} {base : Nat} {v : Value} {L : List Pt} (h : MkAt W base v L) (hb : base ≤ W.heap.size) (hl : L.length < 1000000) (p : Pt) (hp : W.ownsRow base 5 1 p.val p.n (By p.xs)) (hn : I64 p.id ∧ I64 p.at' ∧ ∀ x ∈ p.xs, 0 ≤ x ∧ x ≤ 255) :
    ∃ v' W', (Builtin.append_ #[23, 23] 23 #[v, .slice (some ⟨W.heap.size, 0, none⟩) 1 1]).run Try.prog (W.alloc (.cells p.cs.toArray 31)) = .ok v' W' ∧ MkAt W' base v' (L ++ [p]) ∧ Below base W W' := by
  obtain ⟨v', W', hr, ho, hg⟩ := appendp_run W base v L.length L p h.1 hb (by omega)
  have hs : (W.alloc (.cells p.cs.toArray 31)).heap.size = W.heap.size + 1 := by simp
  have kp : ∀ j, j < W.heap.size → v.ownBlock ≠ some j → W'.heap[j]? = W.heap[j]? := fun j hj hn => (hg.block j (by omega) (fun e => hn e.symm)).trans (Below.heap_alloc _ _ _ hj)
  refine ⟨v', W', hr, ⟨by rw [List.length_append]; exact ho, fun q hq => ?_⟩, ?_⟩
  · have hq' : W.ownsRow base 5 1 q.val q.n (By q.xs) ∧ I64 q.id ∧ I64 q.at' ∧ ∀ x ∈ q.xs, 0 ≤ x ∧ x ≤ 255 := by
      rcases List.mem_append.1 hq with hq | hq
      · exact h.2 q hq
      · obtain rfl := List.mem_singleton.1 hq
        exact ⟨hp, hn⟩
    exact ⟨owns_at hq'.1 (fun j hj => kp j (hq'.1.lt j hj).2 (owns_apart hq'.1 h.1 (by decide) j hj)), hq'.2⟩
  · refine ⟨hg.os, hg.tape, hg.output, by have := hg.size; omega, fun j hj => kp j (by omega) (fun e => by have := (h.1.lt j e).1; omega)⟩
end Go.Proofs.Ytjljklfahmjngaa
