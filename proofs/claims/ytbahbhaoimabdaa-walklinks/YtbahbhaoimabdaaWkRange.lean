/-
  A range over an iterator that owns memory: what it owns is a set of blocks, which the rounds leave alone.
-/
import Derived.Test.YtbahbhaoimabdaaWkClosed
namespace Go.Proofs.Ytbahbhaoimabdaa
open Go Go.Proofs Go.RowKit Go.Shelf
attribute [local go_sem] Oper.semAt_some

theorem roundIn_any {n n' : Nat} {P : Program} {l : Nat} {f : FuncId} {tmps : Array Value} {assign body : Code} {w : World} {R : Ending → World → Prop} (h : RoundIn Fence.wide n P l f tmps assign body w R) : RoundIn Fence.wide n' P l f tmps assign body w R :=
  ⟨h.1, fun c cs _ => h.2 c cs (room_wide _)⟩
theorem yieldAt_any {n n' : Nat} {P : Program} {l : Nat} {args : Array Value} {W : World} {R : Ending → World → Prop} (h : YieldAt Fence.wide n P l args W R) : YieldAt Fence.wide n' P l args W R := by
  obtain ⟨fn, tmps, assign, body, hy, hR⟩ := h
  exact ⟨fn, tmps, assign, body, hy, roundIn_any hR⟩
/-- What an iterator may lean on: J S k tells that k rounds are done while S is what the iterator owns. -/
structure Jt (P : Program) (l N : Nat) (V : Nat → Array Value) (J : (Nat → Prop) → Nat → World → Prop) : Prop where
  step : ∀ S T k A B, J S k A → Only S A B → (∀ b, T b → S b ∨ (A.heap.size ≤ b ∧ b < B.heap.size)) → J T k B
  ask : ∀ n S k A, J S k A → k < N → YieldAt Fence.wide n P l (V k) A fun e W' => e = .returned (.bool true) ∧ J S (k + 1) W' ∧ (∀ b, S b → W'.heap[b]? = A.heap[b]?) ∧ A.heap.size ≤ W'.heap.size
theorem only_put (A : World) (l : Nat) (o : Obj) (S : Nat → Prop) : Only (fun b => S b ∨ b = l) A (A.putObj l o) :=
  (Only.refl _ A).grown (grownBy_putObj' A l o) (fun _ e => .inl (.inr (Option.some.inj e).symm))
theorem wpIn_range_ky {n : Nat} {P : Program} {g : Operand} {ps : Array Tmp} {assign body : Code} {Q : Exit → Act → World → Prop} {a : Act} {w : World}
    {gf : Nat} {lb : Array Value} (hg : a.eval g = .func (.func gf) #[] lb) (eg : ∀ args w, (callFunc gf args).run P w = .ok (.enter gf args) w)
    (N : Nat) (V : Nat → Array Value) (hV : ∀ k, (V k).size = ps.size)
    (I : (Nat → Prop) → Nat → World → Prop)
    (hI : ∀ S T k A B, I S k A → (∀ b, S b → w.heap.size + 2 ≤ b) → Only (fun b => S b ∨ b = w.heap.size + 1) A B → (∀ b, T b → S b ∨ A.heap.size ≤ b) → I T k B) (h0 : I (fun _ => False) 0 w)
    (hit : ∀ (l : Nat) (J : (Nat → Prop) → Nat → World → Prop) (W : World), (∀ S k A, J S k A → I S k A) → w.grownBy W none → Jt P l N V J → J (fun _ => False) 0 W →
      CallsIn Fence.wide (n - 1) P gf (#[.func (.yield l) #[] #[]] ++ lb) W fun e W' => (∃ v, e = .returned v) ∧ ∃ S, J S N W')
    (a₁ : Nat → Act)
    (hassign : ∀ (m l k : Nat) (W : World) (K : Act → World → Prop), K (a₁ k) W →
      assign.wpIn (Fence.wide.inRound l) m P (Exit.then K (fun _ _ _ => False)) { tmps := (ps.zip (V k)).foldl (fun t (p, v) => t.setIfInBounds p v) a.tmps, defers := [] } W)
    (hbody : ∀ (m l k : Nat) (S : Nat → Prop) (W : World), I S k W → k < N → (∀ b, S b → w.heap.size + 2 ≤ b ∧ b < W.heap.size) → w.heap.size + 2 ≤ W.heap.size →
      body.wpIn (Fence.wide.inRound l) m P (fun e _ W' => e = .normal ∧ W'.heap[w.heap.size]? = W.heap[w.heap.size]? ∧ W'.heap[w.heap.size + 1]? = W.heap[w.heap.size + 1]? ∧ (∀ b, S b → W'.heap[b]? = W.heap[b]?) ∧ W.heap.size ≤ W'.heap.size ∧ I S (k + 1) W') (a₁ k) W)
    (hdone : ∀ (D : Nat) (S : Nat → Prop) (W : World), D = w.heap.size → I S N W → (∀ b, S b → w.heap.size + 2 ≤ b) → W.heap[D]? = some (.deferred (some [])) → Q .normal { a with defers := { target := .collected D, args := #[] } :: a.defers } W) :
    (Code.rangeFunc g ps assign body).wpIn Fence.wide n P Q a w := by
  refine wpIn_rangeFunc ?_
  intro fn hfn
  obtain ⟨rec, hrec⟩ : ∃ rec : LoopState → Option Code → Loop, rec = fun st pe => { state := st, pending := pe, fn, tmps := a.tmps, params := ps, assign, body, defers := w.heap.size } := ⟨_, rfl⟩
  obtain ⟨W1, hW1⟩ : ∃ W1, W1 = (w.alloc (.deferred (some []))).alloc (.loop (rec .ready none)) := ⟨_, rfl⟩
  have b1 : W1.heap[w.heap.size + 1]? = some (.loop (rec .ready none)) := by
    have := blk_new (w.alloc (.deferred (some []))) (.loop (rec .ready none))
    rw [hW1]
    rwa [World.size_alloc] at this
  have b0 : W1.heap[w.heap.size]? = some (.deferred (some [])) := by
    rw [hW1, Below.heap_alloc _ _ _ (by simp)]
    exact blk_new w _
  have hg1 : w.grownBy W1 none := by
    rw [hW1]
    exact ⟨rfl, rfl, rfl, by simp; omega, fun k hk _ => by rw [Below.heap_alloc _ _ _ (by simp; omega), Below.heap_alloc _ _ _ hk]⟩
  have hno : ∀ b, (fun _ : Nat => False) b → w.heap.size + 2 ≤ b := fun _ h => h.elim
  refine ⟨w.heap.size + 1, [{ target := .collected w.heap.size, args := #[] }], W1, { target := .fn (.func gf) lb, args := #[.func (.yield (w.heap.size + 1)) #[] #[]] }, W1, gf,
    #[.func (.yield (w.heap.size + 1)) #[] #[]] ++ lb, W1, ?_, ?_, fun _ _ => trivial, ?_, fun h => by simp [Fence.wide] at h, ?_⟩
  · rw [hW1, hrec]
    exact run_enterLoop_outer _ _ _ _ _
  · simp only [resolve, hg]
    simp [go_sem]
  · simp [invoke, go_sem, eg]
  · refine (hit (w.heap.size + 1) (fun S k A => I S k A ∧ A.heap[w.heap.size + 1]? = some (.loop (rec .ready none)) ∧ A.heap[w.heap.size]? = some (.deferred (some [])) ∧ ∀ b, S b → w.heap.size + 2 ≤ b ∧ b < A.heap.size)
      W1 (fun S k A h => h.1) hg1 ⟨?_, ?_⟩ ⟨hI _ _ 0 w W1 h0 hno ((Only.refl _ w).grown hg1 (fun k e => by cases e)) (fun _ h => h.elim), b1, b0, fun _ h => h.elim⟩).mono ?_
    · rintro S T k A B ⟨hi, hl, hd, hS⟩ hO hT
      have hlt : w.heap.size + 1 < A.heap.size := lt_of_block hl
      refine ⟨hI S T k A B hi (fun b hb => (hS b hb).1) (hO.mono (fun _ _ h => .inl h)) (fun b hb => (hT b hb).imp id And.left), ?_, ?_, ?_⟩
      · exact (hO.block _ hlt (fun h => by have := (hS _ h).1; omega)).trans hl
      · exact (hO.block _ (by omega) (fun h => by have := (hS _ h).1; omega)).trans hd
      · intro b hb
        rcases hT b hb with h | h
        · exact ⟨(hS b h).1, Nat.lt_of_lt_of_le (hS b h).2 hO.size⟩
        · exact ⟨by omega, h.2⟩
    · rintro m S k A ⟨hIk, hl, hd, hS⟩ hk
      have hlt : w.heap.size + 1 < A.heap.size := lt_of_block hl
      have hy := run_yield (P := P) (args := V k) hl (by rw [hrec]; exact hV k)
      rw [hrec] at hy
      refine ⟨fn, _, assign, body, hy, roundIn_of_wpIn hfn (hassign _ _ k A _ ⟨_, run_beginRound hl (by rw [hrec]), ?_⟩)⟩
      have hl2 : (A.putObj (w.heap.size + 1) (.loop { rec .ready none with state := .busy })).heap[w.heap.size + 1]? = some (.loop { rec .ready none with state := .busy }) := World.putObj_heap_same hlt
      have hd2 : (A.putObj (w.heap.size + 1) (.loop { rec .ready none with state := .busy })).heap[w.heap.size]? = some (.deferred (some [])) := (World.putObj_heap_other (by omega)).trans hd
      have hI2 : I S k (A.putObj (w.heap.size + 1) (.loop { rec .ready none with state := .busy })) := hI S S k A _ hIk (fun b hb => (hS b hb).1) (only_put _ _ _ _) (fun _ h => .inl h)
      have hk2 : ∀ b, S b → (A.putObj (w.heap.size + 1) (.loop { rec .ready none with state := .busy })).heap[b]? = A.heap[b]? := fun b hb => World.putObj_heap_other (by have := (hS b hb).1; omega)
      have hs2 : A.heap.size ≤ (A.putObj (w.heap.size + 1) (.loop { rec .ready none with state := .busy })).heap.size := by simp
      refine wpIn_mono (hbody _ (w.heap.size + 1) k S _ hI2 hk (fun b hb => by have := hS b hb; simp; omega) (by simp; omega)) ?_
      rintro e a3 W3 ⟨rfl, hd3, hl3, hs3, hz3, hi3⟩
      have hz4 : A.heap.size ≤ W3.heap.size := by simpa using hz3
      clear hz3 hs2
      rw [hl2] at hl3
      rw [hd2] at hd3
      have hr := run_endRound (P := P) none hl3
      rw [hrec] at hr hl3 ⊢
      refine ⟨_, _, hr, ⟨rfl, ⟨hI S S (k + 1) W3 _ hi3 (fun b hb => (hS b hb).1) (only_put _ _ _ _) (fun _ h => .inl h), World.putObj_heap_same (lt_of_block hl3), (World.putObj_heap_other (by omega)).trans hd3, fun b hb => ⟨(hS b hb).1, by have := (hS b hb).2; simp; omega⟩⟩, fun b hb => ?_, by simp; omega⟩⟩
      exact (World.putObj_heap_other (by have := (hS b hb).1; omega)).trans ((hs3 b hb).trans (hk2 b hb))
    · rintro e W2 ⟨⟨v, rfl⟩, S, hi, hl, hk, hS⟩
      exact ⟨none, _, by have := run_endLoop (P := P) hl (by rw [hrec]; simp); rw [hrec] at this; exact this, hdone _ S _ rfl (hI S S N W2 _ hi (fun b hb => (hS b hb).1) (only_put _ _ _ _) (fun _ h => .inl h)) (fun b hb => (hS b hb).1) ((World.putObj_heap_other (by omega)).trans hk)⟩
end Go.Proofs.Ytbahbhaoimabdaa
