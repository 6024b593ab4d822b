/-
  A range over an iterator that keeps memory of its own; the variables are made anew in each round, which makes memory; a round may leave the function.
-/
import Derived.Test.YtjljklfahmjngaaPaRange2
namespace Go.Proofs.Ytjljklfahmjngaa
open Go Go.Proofs Go.RowKit Go.Shelf
/-- It: the iterator's own blocks. -/
theorem wpIn_range_ownx {σ : Type} {n : Nat} {P : Program} {g : Operand} {ps : Array Tmp} {assign body : Code} {Q : Exit → Act → World → Prop} {a : Act} {w : World}
    {gf : Nat} {lb : Array Value} (hg : a.eval g = .func (.func gf) #[] lb) (eg : ∀ args w, (callFunc gf args).run P w = .ok (.enter gf args) w)
    (T : σ → σ → Array Value → Prop) (hV : ∀ s s' v, T s s' v → v.size = ps.size) (Fin : σ → Prop) (s0 : σ)
    (I : σ → (Nat → Prop) → World → Prop) (X : World → Prop)
    (hI : ∀ s It It' A B S, I s It A → Only S A B → (∀ k, S k → It k ∨ k = w.heap.size ∨ k = w.heap.size + 1) → (∀ k, It' k → It k ∨ A.heap.size ≤ k) → I s It' B)
    (hX : ∀ A B row, X A → A.grownBy B row → (∀ r, row = some r → r = w.heap.size ∨ r = w.heap.size + 1) → X B)
    (h0 : I s0 (fun _ => False) w)
    (hit : ∀ (l : Nat) (J : σ → (Nat → Prop) → World → Prop) (Jx : World → Prop) (W : World), (∀ s It A, J s It A → I s It A) → (∀ s It It' A B, J s It A → Only It A B → (∀ k, It' k → It k ∨ A.heap.size ≤ k) → J s It' B) → w.grownBy W none → w.heap.size + 2 ≤ W.heap.size →
      (∀ s s' v It A, J s It A → T s s' v → YieldAt Fence.wide (n - 1 - 1) P l v A fun e W' => (∀ k, It k → k < A.heap.size → W'.heap[k]? = A.heap[k]?) ∧ A.heap.size ≤ W'.heap.size ∧ ((e = .returned (.bool true) ∧ J s' (fun k => It k ∧ k < A.heap.size) W') ∨ (e = .returned (.bool false) ∧ Jx W'))) → J s0 (fun _ => False) W →
      CallsIn Fence.wide (n - 1) P gf (#[.func (.yield l) #[] #[]] ++ lb) W fun e W' => (∃ v, e = .returned v) ∧ ((∃ s It, Fin s ∧ J s It W') ∨ Jx W'))
    (asA : σ → World → Act) (asW : σ → World → World) (has : ∀ (s : σ) (W : World), W.grownBy (asW s W) none)
    (hassign : ∀ (l : Nat) (s s' : σ) (v : Array Value) (W : World) (K : Act → World → Prop), T s s' v → K (asA s W) (asW s W) →
      assign.wpIn (Fence.wide.inRound l) (n - 1 - 1) P (Exit.then K (fun _ _ _ => False)) { tmps := (ps.zip v).foldl (fun t (p, v) => t.setIfInBounds p v) a.tmps, defers := [] } W)
    (hbody : ∀ (l : Nat) (s s' : σ) (v : Array Value) (It : Nat → Prop) (W W2 : World), T s s' v → I s It W → (∀ k, It k → w.heap.size + 2 ≤ k) → w.heap.size + 2 ≤ W.heap.size → (asW s W).grownBy W2 (some (w.heap.size + 1)) → W2.heap.size = (asW s W).heap.size →
      body.wpIn (Fence.wide.inRound l) (n - 1 - 1) P (fun e _ W' => W'.heap[w.heap.size]? = W2.heap[w.heap.size]? ∧ W'.heap[w.heap.size + 1]? = W2.heap[w.heap.size + 1]? ∧ (∀ k, It k → k < W.heap.size → W'.heap[k]? = W2.heap[k]?) ∧ W2.heap.size ≤ W'.heap.size ∧
      ((e = .normal ∧ I s' (fun k => It k ∧ k < W.heap.size) W') ∨ (e = .ret ∧ X W'))) (asA s W) W2)
    (hdone : ∀ (D : Nat) (s : σ) (It : Nat → Prop) (W : World), D = w.heap.size → Fin s → I s It W → W.heap[D]? = some (.deferred (some [])) → Q .normal { a with defers := { target := .collected D, args := #[] } :: a.defers } W)
    (hstop : ∀ (D : Nat) (W : World), D = w.heap.size → X W → W.heap[D]? = some (.deferred (some [])) → Code.ret.wpIn Fence.wide n P Q { a with defers := { target := .collected D, args := #[] } :: a.defers } W) :
    (Code.rangeFunc g ps assign body).wpIn Fence.wide n P Q a w := by
  refine wpIn_rangeFunc ?_
  intro fn hfn
  obtain ⟨rec, hrec⟩ : ∃ rec : LoopState → Option Code → Loop, rec = fun st pe => { state := st, pending := pe, fn, tmps := a.tmps, params := ps, assign, body, defers := w.heap.size } := ⟨_, rfl⟩
  obtain ⟨W1, hW1⟩ : ∃ W1, W1 = (w.alloc (.deferred (some []))).alloc (.loop (rec .ready none)) := ⟨_, rfl⟩
  have b1 : W1.heap[w.heap.size + 1]? = some (.loop (rec .ready none)) := by
    have := blk_new (w.alloc (.deferred (some []))) (.loop (rec .ready none))
    rw [hW1]
    rwa [World.size_alloc] at this
  have b0 : W1.heap[w.heap.size]? = some (.deferred (some [])) := by
    rw [hW1, Below.heap_alloc _ _ _ (by simp)]
    exact blk_new w _
  have hg1 : w.grownBy W1 none := by
    rw [hW1]
    exact ⟨rfl, rfl, rfl, by simp; omega, fun k hk _ => by rw [Below.heap_alloc _ _ _ (by simp; omega), Below.heap_alloc _ _ _ hk]⟩
  have hO2 : ∀ (Y : World) (o : Obj), Only (fun k => k = w.heap.size + 1) Y (Y.putObj (w.heap.size + 1) o) := fun Y o => (Only.refl (fun k => k = w.heap.size + 1) Y).grown (grownBy_putObj' _ _ _) (fun k hk => by cases hk; exact .inl rfl)
  refine ⟨w.heap.size + 1, [{ target := .collected w.heap.size, args := #[] }], W1, { target := .fn (.func gf) lb, args := #[.func (.yield (w.heap.size + 1)) #[] #[]] }, W1, gf,
    #[.func (.yield (w.heap.size + 1)) #[] #[]] ++ lb, W1, ?_, ?_, fun _ _ => trivial, ?_, fun h => by simp [Fence.wide] at h, ?_⟩
  · rw [hW1, hrec]
    exact run_enterLoop_outer _ _ _ _ _
  · simp only [resolve, hg]
    simp [go_sem]
  · simp [invoke, go_sem, eg]
  · refine (hit (w.heap.size + 1) (fun s It A => I s It A ∧ A.heap[w.heap.size + 1]? = some (.loop (rec .ready none)) ∧ A.heap[w.heap.size]? = some (.deferred (some [])) ∧ ∀ k, It k → w.heap.size + 2 ≤ k)
      (fun A => X A ∧ A.heap[w.heap.size + 1]? = some (.loop (rec .done (some .ret))) ∧ A.heap[w.heap.size]? = some (.deferred (some []))) W1 (fun s It A h => h.1) (fun s It It' A B h hO hI' => ⟨hI s It It' A B It h.1 hO (fun k q => .inl q) hI', (hO.block _ (lt_of_block h.2.1) (fun q => by have := h.2.2.2 _ q; omega)).trans h.2.1, (hO.block _ (lt_of_block h.2.2.1) (fun q => by have := h.2.2.2 _ q; omega)).trans h.2.2.1, fun k q => (hI' k q).elim (h.2.2.2 k) (fun e => by have := lt_of_block h.2.1; omega)⟩) hg1 (by rw [hW1]; simp) ?_ ⟨hI s0 _ _ w W1 (fun _ => False) h0 ((Only.refl _ w).grown hg1 (fun k hk => by cases hk)) (fun _ q => q.elim) (fun _ q => q.elim), b1, b0, fun _ q => q.elim⟩).mono ?_
    · rintro s s' v It A ⟨hIk, hl, hd, hit2⟩ hT
      have hlt : w.heap.size + 1 < A.heap.size := lt_of_block hl
      have hy := run_yield (P := P) (args := v) hl (by rw [hrec]; exact hV s s' v hT)
      rw [hrec] at hy
      have hga := has s A
      have hla : (asW s A).heap[w.heap.size + 1]? = some (.loop (rec .ready none)) := (hga.block _ hlt (by simp)).trans hl
      have hda : (asW s A).heap[w.heap.size]? = some (.deferred (some [])) := (hga.block _ (lt_of_block hd) (by simp)).trans hd
      have hlta : w.heap.size + 1 < (asW s A).heap.size := lt_of_block hla
      refine ⟨fn, _, assign, body, hy, roundIn_of_wpIn hfn (hassign _ s s' v A _ hT ⟨_, run_beginRound hla (by rw [hrec]), ?_⟩)⟩
      have hl2 : ((asW s A).putObj (w.heap.size + 1) (.loop { rec .ready none with state := .busy })).heap[w.heap.size + 1]? = some (.loop { rec .ready none with state := .busy }) := World.putObj_heap_same hlta
      have hd2 : ((asW s A).putObj (w.heap.size + 1) (.loop { rec .ready none with state := .busy })).heap[w.heap.size]? = some (.deferred (some [])) := (World.putObj_heap_other (by omega)).trans hda
      have fin : ∀ (jump : Option Code) (W3 : World), W3.heap[w.heap.size + 1]? = some (.loop { rec .ready none with state := .busy }) → W3.heap[w.heap.size]? = some (.deferred (some [])) →
          (Instr.endRound (w.heap.size + 1) jump).run P W3 = .ok (.bool jump.isNone) (W3.putObj (w.heap.size + 1) (.loop (rec (if jump.isNone then .ready else .done) jump))) ∧
          (W3.putObj (w.heap.size + 1) (.loop (rec (if jump.isNone then .ready else .done) jump))).heap[w.heap.size + 1]? = some (.loop (rec (if jump.isNone then .ready else .done) jump)) ∧
          (W3.putObj (w.heap.size + 1) (.loop (rec (if jump.isNone then .ready else .done) jump))).heap[w.heap.size]? = some (.deferred (some [])) := fun jump W3 hl3 hd3 => by
        have := run_endRound (P := P) jump hl3
        rw [hrec] at this ⊢
        exact ⟨this, World.putObj_heap_same (lt_of_block hl3), (World.putObj_heap_other (by omega)).trans hd3⟩
      refine wpIn_mono (hbody (w.heap.size + 1) s s' v It A _ hT hIk hit2 (by omega) (grownBy_putObj' _ _ _) (by simp)) ?_
      rintro e a3 W3 ⟨hd3, hl3, hit3, hs3, hp⟩
      rw [hl2] at hl3
      rw [hd2] at hd3
      have hsa : ((asW s A).putObj (w.heap.size + 1) (.loop { rec .ready none with state := .busy })).heap.size = (asW s A).heap.size := by simp
      rw [hsa] at hs3
      have hfr2 : ∀ (o : Obj), (∀ k, It k → k < A.heap.size → (W3.putObj (w.heap.size + 1) o).heap[k]? = A.heap[k]?) ∧ A.heap.size ≤ (W3.putObj (w.heap.size + 1) o).heap.size := fun o =>
        ⟨fun k q hkl => by
          have hne : k ≠ w.heap.size + 1 := by have := hit2 k q; omega
          rw [World.putObj_heap_other (by omega), hit3 k q hkl, World.putObj_heap_other (by omega)]
          exact hga.block k hkl (by simp), by have := hga.size; simp; omega⟩
      rcases hp with ⟨rfl, hi3⟩ | ⟨rfl, hx3⟩
      · obtain ⟨hr, hl4, hk4⟩ := fin none W3 hl3 hd3
        exact ⟨_, _, hr, (hfr2 _).1, (hfr2 _).2, .inl ⟨rfl, hI s' _ _ W3 _ _ hi3 (hO2 W3 _) (fun k q => .inr (.inr q)) (fun k q => .inl q), hl4, hk4, fun k q => hit2 k q.1⟩⟩
      · obtain ⟨hr, hl4, hk4⟩ := fin (some .ret) W3 hl3 hd3
        exact ⟨_, _, hr, (hfr2 _).1, (hfr2 _).2, .inr ⟨rfl, hX W3 _ (some (w.heap.size + 1)) hx3 (grownBy_putObj' _ _ _) (fun r e => by cases e; omega), hl4, hk4⟩⟩
    · rintro e W2 ⟨⟨v, rfl⟩, (⟨s, It, hf, hi, hl, hk, hit2⟩ | ⟨hx, hl, hk⟩)⟩
      · exact ⟨none, _, by have := run_endLoop (P := P) hl (by rw [hrec]; simp); rw [hrec] at this; exact this, hdone _ s It _ rfl hf (hI s It It W2 _ _ hi (hO2 W2 _) (fun k q => .inr (.inr q)) (fun k q => .inl q)) ((World.putObj_heap_other (by omega)).trans hk)⟩
      · exact ⟨some .ret, _, by have := run_endLoop (P := P) hl (by rw [hrec]; simp); rw [hrec] at this; exact this, hstop _ _ rfl (hX W2 _ (some (w.heap.size + 1)) hx (grownBy_putObj' _ _ _) (fun r e => by cases e; omega)) ((World.putObj_heap_other (by omega)).trans hk)⟩
end Go.Proofs.Ytjljklfahmjngaa
