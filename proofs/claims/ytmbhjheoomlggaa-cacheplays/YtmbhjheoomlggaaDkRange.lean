/-
  A range over an iterator that runs to its end: what the iterator knows of what it hands over is told to the body.
-/
import Derived.Test.YtmbhjheoomlggaaDkWritten
namespace Go.Proofs.Ytmbhjheoomlggaa
open Go Go.Proofs Go.RowKit Go.Shelf
namespace Dk
set_option maxRecDepth 100000 in
/-- A range over an iterator that runs to its end, N rounds: what may be handed over in a round is told to the body ('H k A vs'), and the iterator's contract is asked for at whatever invariant extends I. -/
theorem wpIn_range_all {n : Nat} {P : Program} {g : Operand} {ps : Array Tmp} {assign body : Code} {Q : Exit → Act → World → Prop} {a : Act} {w : World}
    {gf : Nat} {lb : Array Value} (hg : a.eval g = .func (.func gf) #[] lb) (eg : ∀ args w, (callFunc gf args).run P w = .ok (.enter gf args) w)
    (N : Nat) (I : Nat → World → Prop) (hI : ∀ k A B row, I k A → A.grownBy B row → (∀ r, row = some r → w.heap.size ≤ r ∧ ∃ o : Obj, A.heap[r]? = some o ∧ o.isCells = false) → I k B) (h0 : I 0 w)
    (H : Nat → World → Array Value → Prop) (hH : ∀ k A vs, H k A vs → vs.size = ps.size)
    (hit : ∀ (l : Nat) (J : Nat → World → Prop) (W : World), (∀ k A, J k A → I k A) → (∀ k A B, J k A → A.grownBy B none → J k B) → w.grownBy W none →
      (∀ k A vs, J k A → k < N → H k A vs → YieldAt Fence.wide (n - 1 - 1) P l vs A fun e W' => e = .returned (.bool true) ∧ J (k + 1) W') → J 0 W →
      CallsIn Fence.wide (n - 1) P gf (#[.func (.yield l) #[] #[]] ++ lb) W fun e W' => (∃ v, e = .returned v) ∧ J N W')
    (hround : ∀ (l k : Nat) (A : World) (vs : Array Value), w.heap.size ≤ l → I k A → k < N → H k A vs →
      assign.wpIn (Fence.wide.inRound l) (n - 1 - 1) P (Exit.then (fun a₁ W₁ => KeepsOthers A W₁ ∧ ∀ (o : Obj) (W₂ : World), W₁.heap[l]? = some o → o.isCells = false → W₂.heap.size = W₁.heap.size → (∀ j, j ≠ l → W₂.heap[j]? = W₁.heap[j]?) →
          W₂.os = W₁.os → W₂.tape = W₁.tape → W₂.output = W₁.output →
          body.wpIn (Fence.wide.inRound l) (n - 1 - 1) P (fun e _ W₃ => e = .normal ∧ KeepsOthers W₂ W₃ ∧ I (k + 1) W₃) a₁ W₂) (fun _ _ _ => False))
        { tmps := (ps.zip vs).foldl (fun t (p, v) => t.setIfInBounds p v) a.tmps, defers := [] } A)
    (hdone : ∀ (D : Nat) (W : World), w.heap.size ≤ D → I N W → W.heap[D]? = some (.deferred (some [])) → Q .normal { a with defers := { target := .collected D, args := #[] } :: a.defers } W) :
    (Code.rangeFunc g ps assign body).wpIn Fence.wide n P Q a w := by
  refine wpIn_rangeFunc ?_
  intro fn hfn
  obtain ⟨rec, hrec⟩ : ∃ rec : Loop, rec = { state := .ready, pending := none, fn, tmps := a.tmps, params := ps, assign, body, defers := w.heap.size } := ⟨_, rfl⟩
  obtain ⟨W1, hW1⟩ : ∃ W1, W1 = (w.alloc (.deferred (some []))).alloc (.loop rec) := ⟨_, rfl⟩
  have b1 : W1.heap[w.heap.size + 1]? = some (.loop rec) := by
    have := blk_new (w.alloc (.deferred (some []))) (.loop rec)
    rw [hW1]
    rwa [World.size_alloc] at this
  have b0 : W1.heap[w.heap.size]? = some (.deferred (some [])) := by
    rw [hW1, Below.heap_alloc _ _ _ (by simp)]
    exact blk_new w _
  have hg1 : w.grownBy W1 none := by
    rw [hW1]
    exact ⟨rfl, rfl, rfl, by simp; omega, fun k hk _ => by rw [Below.heap_alloc _ _ _ (by simp; omega), Below.heap_alloc _ _ _ hk]⟩
  refine ⟨w.heap.size + 1, [{ target := .collected w.heap.size, args := #[] }], W1, { target := .fn (.func gf) lb, args := #[.func (.yield (w.heap.size + 1)) #[] #[]] }, W1, gf,
    #[.func (.yield (w.heap.size + 1)) #[] #[]] ++ lb, W1, ?_, ?_, fun _ _ => trivial, ?_, fun h => by simp [Fence.wide] at h, ?_⟩
  · rw [hW1, hrec]
    exact run_enterLoop_outer _ _ _ _ _
  · simp only [resolve, hg]
    simp [go_sem]
  · simp [invoke, go_sem, eg]
  · refine (hit (w.heap.size + 1) (fun k A => I k A ∧ A.heap[w.heap.size + 1]? = some (.loop rec) ∧ A.heap[w.heap.size]? = some (.deferred (some []))) W1 (fun k A h => h.1)
      (fun k A B h hg' => ⟨hI k A B none h.1 hg' (by simp), (hg'.block _ (lt_of_block h.2.1) (by simp)).trans h.2.1, (hg'.block _ (lt_of_block h.2.2) (by simp)).trans h.2.2⟩) hg1 ?_ ⟨hI 0 w W1 none h0 hg1 (by simp), b1, b0⟩).mono ?_
    · rintro k A vs ⟨hIk, hl, hd⟩ hk hHk
      have hlt : w.heap.size + 1 < A.heap.size := lt_of_block hl
      have hy := run_yield (P := P) (args := vs) hl (by rw [hrec]; exact hH k A vs hHk)
      rw [hrec] at hy
      refine ⟨fn, _, assign, body, hy, roundIn_of_wpIn hfn ?_⟩
      refine wpIn_mono (hround (w.heap.size + 1) k A vs (by omega) hIk hk hHk) ?_
      rintro e a₁ W₁ hp
      cases e with
      | normal =>
        obtain ⟨hk1, hb⟩ := hp
        have hl1 := hk1.same _ _ hl rfl
        have hd1 := hk1.same _ _ hd rfl
        refine ⟨_, run_beginRound hl1 (by rw [hrec]), ?_⟩
        have hlt1 : w.heap.size + 1 < W₁.heap.size := lt_of_block hl1
        refine wpIn_mono (hb _ (W₁.putObj (w.heap.size + 1) (.loop { rec with state := .busy })) hl1 rfl (by simp) (fun j hj => World.putObj_heap_other hj) rfl rfl rfl) ?_
        rintro e2 a₂ W₃ ⟨rfl, hk2, hI2⟩
        have hl2 : W₃.heap[w.heap.size + 1]? = some (.loop { rec with state := .busy }) := hk2.same _ _ (World.putObj_heap_same hlt1) rfl
        have hd2 : W₃.heap[w.heap.size]? = some (.deferred (some [])) := hk2.same _ _ ((World.putObj_heap_other (by omega)).trans hd1) rfl
        have hr := run_endRound (P := P) none hl2
        refine ⟨_, _, hr, rfl, ?_, ?_, ?_⟩
        · exact hI (k + 1) W₃ _ (some (w.heap.size + 1)) hI2 (grownBy_putObj' _ _ _) (fun r e => by cases e; exact ⟨by omega, _, hl2, rfl⟩)
        · rw [World.putObj_heap_same (lt_of_block hl2), hrec]
          rfl
        · exact (World.putObj_heap_other (by omega)).trans hd2
      | ret => exact hp.elim
      | exit id => exact hp.elim
      | goto t => exact hp.elim
      | panic ch => exact hp.elim
      | outgrown => exact hp.elim
    · rintro e W2 ⟨⟨v, rfl⟩, hI2, hl2, hd2⟩
      have hr := run_endLoop (P := P) hl2 (by rw [hrec]; simp)
      refine ⟨_, _, hr, ?_⟩
      rw [hrec]
      exact hdone w.heap.size _ (Nat.le_refl _) (hI N W2 _ (some (w.heap.size + 1)) hI2 (grownBy_putObj' _ _ _) (fun r e => by cases e; exact ⟨by omega, _, hl2, rfl⟩)) ((World.putObj_heap_other (by omega)).trans hd2)
end Dk
end Go.Proofs.Ytmbhjheoomlggaa
