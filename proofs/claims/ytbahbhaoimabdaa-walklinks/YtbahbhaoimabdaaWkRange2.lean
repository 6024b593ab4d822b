/-
  A range over an iterator that owns memory, whose round is its assignment alone, into variables in memory.
-/
import Derived.Test.YtbahbhaoimabdaaWkFindS
namespace Go.Proofs.Ytbahbhaoimabdaa
open Go Go.Proofs Go.RowKit Go.Shelf
attribute [local go_sem] Oper.semAt_some

theorem wpIn_range_kz {n : Nat} {P : Program} {g : Operand} {ps : Array Tmp} {assign body : Code} {Q : Exit → Act → World → Prop} {a : Act} {w : World}
    {gf : Nat} {lb : Array Value} (hg : a.eval g = .func (.func gf) #[] lb) (eg : ∀ args w, (callFunc gf args).run P w = .ok (.enter gf args) w)
    (N : Nat) (V : Nat → Array Value) (hV : ∀ k, (V k).size = ps.size)
    (I : (Nat → Prop) → Nat → World → Prop)
    (hI : ∀ S T k A B, I S k A → (∀ b, S b → w.heap.size + 2 ≤ b) → Only (fun b => S b ∨ b = w.heap.size + 1) A B → (∀ b, T b → S b ∨ A.heap.size ≤ b) → I T k B) (h0 : I (fun _ => False) 0 w)
    (hit : ∀ (l : Nat) (J : (Nat → Prop) → Nat → World → Prop) (W : World), (∀ S k A, J S k A → I S k A) → w.grownBy W none → Jt P l N V J → J (fun _ => False) 0 W →
      CallsIn Fence.wide (n - 1) P gf (#[.func (.yield l) #[] #[]] ++ lb) W fun e W' => (∃ v, e = .returned v) ∧ ∃ S, J S N W')
    (hround : ∀ (m l k : Nat) (S : Nat → Prop) (W : World) (K : Act → World → Prop), I S k W → k < N → (∀ b, S b → w.heap.size + 2 ≤ b ∧ b < W.heap.size) → w.heap.size + 2 ≤ W.heap.size →
      (∀ a' W', W'.heap[w.heap.size]? = W.heap[w.heap.size]? → W'.heap[w.heap.size + 1]? = W.heap[w.heap.size + 1]? → (∀ b, S b → W'.heap[b]? = W.heap[b]?) → W.heap.size ≤ W'.heap.size → I S (k + 1) W' → K a' W') →
      assign.wpIn (Fence.wide.inRound l) m P (Exit.then K (fun _ _ _ => False)) { tmps := (ps.zip (V k)).foldl (fun t (p, v) => t.setIfInBounds p v) a.tmps, defers := [] } W)
    (hskip : ∀ (F' : Fence) (m : Nat) (R : Exit → Act → World → Prop) (b : Act) (W : World), R .normal b W → body.wpIn F' m P R b W)
    (hdone : ∀ (D : Nat) (S : Nat → Prop) (W : World), D = w.heap.size → I S N W → (∀ b, S b → w.heap.size + 2 ≤ b) → W.heap[D]? = some (.deferred (some [])) → Q .normal { a with defers := { target := .collected D, args := #[] } :: a.defers } W) :
    (Code.rangeFunc g ps assign body).wpIn Fence.wide n P Q a w := by
  refine wpIn_rangeFunc ?_
  intro fn hfn
  obtain ⟨rec, hrec⟩ : ∃ rec : LoopState → Option Code → Loop, rec = fun st pe => { state := st, pending := pe, fn, tmps := a.tmps, params := ps, assign, body, defers := w.heap.size } := ⟨_, rfl⟩
  obtain ⟨W1, hW1⟩ : ∃ W1, W1 = (w.alloc (.deferred (some []))).alloc (.loop (rec .ready none)) := ⟨_, rfl⟩
  have b1 : W1.heap[w.heap.size + 1]? = some (.loop (rec .ready none)) := by
    have := blk_new (w.alloc (.deferred (some []))) (.loop (rec .ready none))
    rw [hW1]
    rwa [World.size_alloc] at this
  have b0 : W1.heap[w.heap.size]? = some (.deferred (some [])) := by
    rw [hW1, Below.heap_alloc _ _ _ (by simp)]
    exact blk_new w _
  have hg1 : w.grownBy W1 none := by
    rw [hW1]
    exact ⟨rfl, rfl, rfl, by simp; omega, fun k hk _ => by rw [Below.heap_alloc _ _ _ (by simp; omega), Below.heap_alloc _ _ _ hk]⟩
  have hno : ∀ b, (fun _ : Nat => False) b → w.heap.size + 2 ≤ b := fun _ h => h.elim
  refine ⟨w.heap.size + 1, [{ target := .collected w.heap.size, args := #[] }], W1, { target := .fn (.func gf) lb, args := #[.func (.yield (w.heap.size + 1)) #[] #[]] }, W1, gf,
    #[.func (.yield (w.heap.size + 1)) #[] #[]] ++ lb, W1, ?_, ?_, fun _ _ => trivial, ?_, fun h => by simp [Fence.wide] at h, ?_⟩
  · rw [hW1, hrec]
    exact run_enterLoop_outer _ _ _ _ _
  · simp only [resolve, hg]
    simp [go_sem]
  · simp [invoke, go_sem, eg]
  · refine (hit (w.heap.size + 1) (fun S k A => I S k A ∧ A.heap[w.heap.size + 1]? = some (.loop (rec .ready none)) ∧ A.heap[w.heap.size]? = some (.deferred (some [])) ∧ ∀ b, S b → w.heap.size + 2 ≤ b ∧ b < A.heap.size)
      W1 (fun S k A h => h.1) hg1 ⟨?_, ?_⟩ ⟨hI _ _ 0 w W1 h0 hno ((Only.refl _ w).grown hg1 (fun k e => by cases e)) (fun _ h => h.elim), b1, b0, fun _ h => h.elim⟩).mono ?_
    · rintro S T k A B ⟨hi, hl, hd, hS⟩ hO hT
      have hlt : w.heap.size + 1 < A.heap.size := lt_of_block hl
      refine ⟨hI S T k A B hi (fun b hb => (hS b hb).1) (hO.mono (fun _ _ h => .inl h)) (fun b hb => (hT b hb).imp id And.left), ?_, ?_, ?_⟩
      · exact (hO.block _ hlt (fun h => by have := (hS _ h).1; omega)).trans hl
      · exact (hO.block _ (by omega) (fun h => by have := (hS _ h).1; omega)).trans hd
      · intro b hb
        rcases hT b hb with h | h
        · exact ⟨(hS b h).1, Nat.lt_of_lt_of_le (hS b h).2 hO.size⟩
        · exact ⟨by omega, h.2⟩
    · rintro m S k A ⟨hIk, hl, hd, hS⟩ hk
      have hlt : w.heap.size + 1 < A.heap.size := lt_of_block hl
      have hy := run_yield (P := P) (args := V k) hl (by rw [hrec]; exact hV k)
      rw [hrec] at hy
      refine ⟨fn, _, assign, body, hy, roundIn_of_wpIn hfn (hround _ _ k S A _ hIk hk hS (by omega) ?_)⟩
      intro a' B kd kl ks kz hi3
      have bl : B.heap[w.heap.size + 1]? = some (.loop (rec .ready none)) := kl.trans hl
      have bd : B.heap[w.heap.size]? = some (.deferred (some [])) := kd.trans hd
      have hltB : w.heap.size + 1 < B.heap.size := lt_of_block bl
      refine ⟨_, run_beginRound bl (by rw [hrec]), hskip _ _ _ _ _ ?_⟩
      have hl2 : (B.putObj (w.heap.size + 1) (.loop { rec .ready none with state := .busy })).heap[w.heap.size + 1]? = some (.loop { rec .ready none with state := .busy }) := World.putObj_heap_same hltB
      have hd2 : (B.putObj (w.heap.size + 1) (.loop { rec .ready none with state := .busy })).heap[w.heap.size]? = some (.deferred (some [])) := (World.putObj_heap_other (by omega)).trans bd
      have hI2 : I S (k + 1) (B.putObj (w.heap.size + 1) (.loop { rec .ready none with state := .busy })) := hI S S (k + 1) B _ hi3 (fun b hb => (hS b hb).1) (only_put _ _ _ _) (fun _ h => .inl h)
      have hk2 : ∀ b, S b → (B.putObj (w.heap.size + 1) (.loop { rec .ready none with state := .busy })).heap[b]? = A.heap[b]? := fun b hb => (World.putObj_heap_other (by have := (hS b hb).1; omega)).trans (ks b hb)
      have hs2 : A.heap.size ≤ (B.putObj (w.heap.size + 1) (.loop { rec .ready none with state := .busy })).heap.size := by simp; omega
      generalize B.putObj (w.heap.size + 1) (.loop { rec .ready none with state := .busy }) = W3 at *
      have hr := run_endRound (P := P) none hl2
      rw [hrec] at hr hl2 ⊢
      refine ⟨_, _, hr, ⟨rfl, ⟨hI S S (k + 1) W3 _ hI2 (fun b hb => (hS b hb).1) (only_put _ _ _ _) (fun _ h => .inl h), World.putObj_heap_same (lt_of_block hl2), (World.putObj_heap_other (by omega)).trans hd2, fun b hb => ⟨(hS b hb).1, by have := (hS b hb).2; simp; omega⟩⟩, fun b hb => ?_, by simp; omega⟩⟩
      exact (World.putObj_heap_other (by have := (hS b hb).1; omega)).trans (hk2 b hb)
    · rintro e W2 ⟨⟨v, rfl⟩, S, hi, hl, hk, hS⟩
      exact ⟨none, _, by have := run_endLoop (P := P) hl (by rw [hrec]; simp); rw [hrec] at this; exact this, hdone _ S _ rfl (hI S S N W2 _ hi (fun b hb => (hS b hb).1) (only_put _ _ _ _) (fun _ h => .inl h)) (fun b hb => (hS b hb).1) ((World.putObj_heap_other (by omega)).trans hk)⟩
end Go.Proofs.Ytbahbhaoimabdaa
