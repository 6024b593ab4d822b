/-
  A range over an iterator that keeps memory of its own, which it turns between the rounds; what it hands over is told by a relation.
-/
import Derived.Test.YthmbhcmicebcpaaDpRange
import Derived.RangeFuncNested
import Derived.RangeFuncLeaves
import Derived.RangeFuncBound
import Derived.RangeFuncCalls
import Derived.RangeFuncBox
import Derived.Shelf.RegionOpen
import Derived.Stop.RegionWithIn
namespace Go.Proofs.Ythmbhcmicebcpaa
open Go Go.Proofs Go.RowKit Go.Shelf
/-- It: the iterator's own blocks. -/
theorem wpIn_range_own {σ : Type} {n : Nat} {P : Program} {g : Operand} {ps : Array Tmp} {assign body : Code} {Q : Exit → Act → World → Prop} {a : Act} {w : World}
    {gf : Nat} {lb : Array Value} (hg : a.eval g = .func (.func gf) #[] lb) (eg : ∀ args w, (callFunc gf args).run P w = .ok (.enter gf args) w)
    (T : σ → σ → Array Value → Prop) (hV : ∀ s s' v, T s s' v → v.size = ps.size) (Fin : σ → Prop) (s0 : σ)
    (I : σ → (Nat → Prop) → World → Prop)
    (hI : ∀ s It It' A B S, I s It A → Only S A B → (∀ k, S k → It k ∨ k = w.heap.size ∨ k = w.heap.size + 1) → (∀ k, It' k → It k ∨ A.heap.size ≤ k) → I s It' B)
    (h0 : I s0 (fun _ => False) w)
    (hit : ∀ (l : Nat) (J : σ → (Nat → Prop) → World → Prop) (W : World), (∀ s It A, J s It A → I s It A) → (∀ s It It' A B, J s It A → Only It A B → (∀ k, It' k → It k ∨ A.heap.size ≤ k) → J s It' B) → w.grownBy W none → w.heap.size + 2 ≤ W.heap.size →
      (∀ s s' v It A, J s It A → T s s' v → YieldAt Fence.wide (n - 1 - 1) P l v A fun e W' => e = .returned (.bool true) ∧ (∀ k, It k → k < A.heap.size → W'.heap[k]? = A.heap[k]?) ∧ A.heap.size ≤ W'.heap.size ∧ J s' (fun k => It k ∧ k < A.heap.size) W') → J s0 (fun _ => False) W →
      CallsIn Fence.wide (n - 1) P gf (#[.func (.yield l) #[] #[]] ++ lb) W fun e W' => (∃ v, e = .returned v) ∧ ∃ s It, Fin s ∧ J s It W')
    (a₁ : Array Value → Act)
    (hassign : ∀ (l : Nat) (s s' : σ) (v : Array Value) (W : World) (K : Act → World → Prop), T s s' v → K (a₁ v) W →
      assign.wpIn (Fence.wide.inRound l) (n - 1 - 1) P (Exit.then K (fun _ _ _ => False)) { tmps := (ps.zip v).foldl (fun t (p, v) => t.setIfInBounds p v) a.tmps, defers := [] } W)
    (hbody : ∀ (l : Nat) (s s' : σ) (v : Array Value) (It : Nat → Prop) (W : World), T s s' v → I s It W → (∀ k, It k → w.heap.size + 2 ≤ k) → w.heap.size + 2 ≤ W.heap.size → body.wpIn (Fence.wide.inRound l) (n - 1 - 1) P (fun e _ W' => W'.heap[w.heap.size]? = W.heap[w.heap.size]? ∧ W'.heap[w.heap.size + 1]? = W.heap[w.heap.size + 1]? ∧ (∀ k, It k → k < W.heap.size → W'.heap[k]? = W.heap[k]?) ∧ W.heap.size ≤ W'.heap.size ∧
      e = .normal ∧ I s' (fun k => It k ∧ k < W.heap.size) W') (a₁ v) W)
    (hdone : ∀ (D : Nat) (s : σ) (It : Nat → Prop) (W : World), D = w.heap.size → Fin s → I s It W → W.heap[D]? = some (.deferred (some [])) → Q .normal { a with defers := { target := .collected D, args := #[] } :: a.defers } W) :
    (Code.rangeFunc g ps assign body).wpIn Fence.wide n P Q a w := by
  refine wpIn_rangeFunc ?_
  intro fn hfn
  obtain ⟨rec, hrec⟩ : ∃ rec : LoopState → Option Code → Loop, rec = fun st pe => { state := st, pending := pe, fn, tmps := a.tmps, params := ps, assign, body, defers := w.heap.size } := ⟨_, rfl⟩
  obtain ⟨W1, hW1⟩ : ∃ W1, W1 = (w.alloc (.deferred (some []))).alloc (.loop (rec .ready none)) := ⟨_, rfl⟩
  have b1 : W1.heap[w.heap.size + 1]? = some (.loop (rec .ready none)) := by
    have := blk_new (w.alloc (.deferred (some []))) (.loop (rec .ready none))
    rw [hW1]
    rwa [World.size_alloc] at this
  have b0 : W1.heap[w.heap.size]? = some (.deferred (some [])) := by
    rw [hW1, Below.heap_alloc _ _ _ (by simp)]
    exact blk_new w _
  have hg1 : w.grownBy W1 none := by
    rw [hW1]
    exact ⟨rfl, rfl, rfl, by simp; omega, fun k hk _ => by rw [Below.heap_alloc _ _ _ (by simp; omega), Below.heap_alloc _ _ _ hk]⟩
  refine ⟨w.heap.size + 1, [{ target := .collected w.heap.size, args := #[] }], W1, { target := .fn (.func gf) lb, args := #[.func (.yield (w.heap.size + 1)) #[] #[]] }, W1, gf,
    #[.func (.yield (w.heap.size + 1)) #[] #[]] ++ lb, W1, ?_, ?_, fun _ _ => trivial, ?_, fun h => by simp [Fence.wide] at h, ?_⟩
  · rw [hW1, hrec]
    exact run_enterLoop_outer _ _ _ _ _
  · simp only [resolve, hg]
    simp [go_sem]
  · simp [invoke, go_sem, eg]
  · refine (hit (w.heap.size + 1) (fun s It A => I s It A ∧ A.heap[w.heap.size + 1]? = some (.loop (rec .ready none)) ∧ A.heap[w.heap.size]? = some (.deferred (some [])) ∧ ∀ k, It k → w.heap.size + 2 ≤ k) W1 (fun s It A h => h.1) (fun s It It' A B h hO hI' => ⟨hI s It It' A B It h.1 hO (fun k q => .inl q) hI', (hO.block _ (lt_of_block h.2.1) (fun q => by have := h.2.2.2 _ q; omega)).trans h.2.1, (hO.block _ (lt_of_block h.2.2.1) (fun q => by have := h.2.2.2 _ q; omega)).trans h.2.2.1, fun k q => (hI' k q).elim (h.2.2.2 k) (fun e => by have := lt_of_block h.2.1; omega)⟩) hg1 (by rw [hW1]; simp) ?_ ⟨hI s0 _ _ w W1 (fun _ => False) h0 ((Only.refl _ w).grown hg1 (fun k hk => by cases hk)) (fun _ q => q.elim) (fun _ q => q.elim), b1, b0, fun _ q => q.elim⟩).mono ?_
    · rintro s s' v It A ⟨hIk, hl, hd, hit2⟩ hT
      have hlt : w.heap.size + 1 < A.heap.size := lt_of_block hl
      have hy := run_yield (P := P) (args := v) hl (by rw [hrec]; exact hV s s' v hT)
      rw [hrec] at hy
      refine ⟨fn, _, assign, body, hy, roundIn_of_wpIn hfn (hassign _ s s' v A _ hT ⟨_, run_beginRound hl (by rw [hrec]), ?_⟩)⟩
      have hl2 : (A.putObj (w.heap.size + 1) (.loop { rec .ready none with state := .busy })).heap[w.heap.size + 1]? = some (.loop { rec .ready none with state := .busy }) := World.putObj_heap_same hlt
      have hd2 : (A.putObj (w.heap.size + 1) (.loop { rec .ready none with state := .busy })).heap[w.heap.size]? = some (.deferred (some [])) := (World.putObj_heap_other (by omega)).trans hd
      have hO2 : ∀ (X : World) (o : Obj), Only (fun k => k = w.heap.size + 1) X (X.putObj (w.heap.size + 1) o) := fun X o => (Only.refl (fun k => k = w.heap.size + 1) X).grown (grownBy_putObj' _ _ _) (fun k hk => by cases hk; exact .inl rfl)
      have fin : ∀ (jump : Option Code) (W3 : World), W3.heap[w.heap.size + 1]? = some (.loop { rec .ready none with state := .busy }) → W3.heap[w.heap.size]? = some (.deferred (some [])) →
          (Instr.endRound (w.heap.size + 1) jump).run P W3 = .ok (.bool jump.isNone) (W3.putObj (w.heap.size + 1) (.loop (rec (if jump.isNone then .ready else .done) jump))) ∧
          (W3.putObj (w.heap.size + 1) (.loop (rec (if jump.isNone then .ready else .done) jump))).heap[w.heap.size + 1]? = some (.loop (rec (if jump.isNone then .ready else .done) jump)) ∧
          (W3.putObj (w.heap.size + 1) (.loop (rec (if jump.isNone then .ready else .done) jump))).heap[w.heap.size]? = some (.deferred (some [])) := fun jump W3 hl3 hd3 => by
        have := run_endRound (P := P) jump hl3
        rw [hrec] at this ⊢
        exact ⟨this, World.putObj_heap_same (lt_of_block hl3), (World.putObj_heap_other (by omega)).trans hd3⟩
      refine wpIn_mono (hbody (w.heap.size + 1) s s' v It _ hT (hI s It It A _ _ hIk (hO2 A _) (fun k q => .inr (.inr q)) (fun k q => .inl q)) hit2 (by simp; omega)) ?_
      rintro e a3 W3 ⟨hd3, hl3, hit3, hs3, rfl, hi3⟩
      rw [hl2] at hl3
      rw [hd2] at hd3
      obtain ⟨hr, hl4, hk4⟩ := fin none W3 hl3 hd3
      refine ⟨_, _, hr, rfl, fun k q hkl => ?_, ?_, hI s' _ _ W3 _ _ hi3 (hO2 W3 _) (fun k q => .inr (.inr q)) (fun k q => .inl ⟨q.1, by simp; exact q.2⟩), hl4, hk4, fun k q => hit2 k q.1⟩
      · have hne : k ≠ w.heap.size + 1 := by have := hit2 k q; omega
        rw [World.putObj_heap_other (by omega), hit3 k q (by simp; exact hkl), World.putObj_heap_other (by omega)]
      · simp at hs3 ⊢
        exact hs3
    · rintro e W2 ⟨⟨v, rfl⟩, s, It, hf, hi, hl, hk, hit2⟩
      have hO2 : ∀ (X : World) (o : Obj), Only (fun k => k = w.heap.size + 1) X (X.putObj (w.heap.size + 1) o) := fun X o => (Only.refl (fun k => k = w.heap.size + 1) X).grown (grownBy_putObj' _ _ _) (fun k hk => by cases hk; exact .inl rfl)
      exact ⟨none, _, by have := run_endLoop (P := P) hl (by rw [hrec]; simp); rw [hrec] at this; exact this, hdone _ s It _ rfl hf (hI s It It W2 _ _ hi (hO2 W2 _) (fun k q => .inr (.inr q)) (fun k q => .inl q)) ((World.putObj_heap_other (by omega)).trans hk)⟩
end Go.Proofs.Ythmbhcmicebcpaa
