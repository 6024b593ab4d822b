/-
  setOf; what under goes over: lists alone.
-/
import Derived.Test.YthmbhcmicebcpaaDpRange
import Derived.Test.YthmbhcmicebcpaaDpBo
import Derived.RangeFuncNested
import Derived.RangeFuncLeaves
import Derived.RangeFuncBound
import Derived.RangeFuncCalls
import Derived.RangeFuncBox
import Derived.Shelf.RegionOpen
import Derived.Stop.RegionWithIn
namespace Go.Proofs.Ythmbhcmicebcpaa
open Go Go.Proofs Go.RowKit Go.Shelf
attribute [local go_sem] Oper.semAt_some
def setL (xs : List Int) : List Int := xs.foldl (fun S x => insS x S) []
theorem setL_snoc (xs : List Int) (x : Int) : setL (xs ++ [x]) = insS x (setL xs) := by unfold setL; rw [List.foldl_append]; rfl
theorem setL_mem {xs : List Int} {y : Int} : y ∈ setL xs ↔ y ∈ xs := by
  have gen : ∀ (xs : List Int) (S : List Int), y ∈ xs.foldl (fun S x => insS x S) S ↔ y ∈ S ∨ y ∈ xs := by
    intro xs
    induction xs with
    | nil => intro S; simp
    | cons x r ih =>
      intro S
      rw [List.foldl_cons, ih, mem_ins]
      simp only [List.mem_cons]
      exact ⟨fun q => q.elim (fun q => q.elim (fun e => .inr (.inl e)) .inl) (fun q => .inr (.inr q)), fun q => q.elim (fun q => .inl (.inr q)) (fun q => q.elim (fun e => .inl (.inl e)) .inr)⟩
  have := gen xs []
  simpa [setL] using this
theorem setL_len (xs : List Int) : (setL xs).length ≤ xs.length := by
  have gen : ∀ (xs : List Int) (S : List Int), (xs.foldl (fun S x => insS x S) S).length ≤ S.length + xs.length := by
    intro xs
    induction xs with
    | nil => intro S; simp
    | cons x r ih =>
      intro S
      rw [List.foldl_cons]
      have := ih (insS x S)
      have := ins_len_le x S
      simp only [List.length_cons]
      omega
  have := gen xs []
  simpa [setL] using this
theorem results_set {f : Func} {tmps : Array Value} {a b : Nat} {om : Option Nat} {W : World} (hf : f.results = #[.cell a 64]) (ht : tmps.getD a undef = .pointer (some ⟨b, 0, none⟩)) (h0 : W.cell? ⟨b, 0, none⟩ = some (.map om)) : (results f tmps).run Try.prog W = .ok (.agg #[.map om]) W := by
  have ht2 : tmps[a]?.getD undef = .pointer (some ⟨b, 0, none⟩) := by rw [← ht]; simp
  unfold results
  rw [hf]
  simp [ht2, asAddr, go_sem, h0]
/-- The set in its box, between two rounds. -/
structure SoI (w : World) (b : Nat) (S : List Int) (W : World) : Prop where
  st : ∃ om, W.heap[b + 1]? = some (.cells #[.map om] 64 (0, 0)) ∧ StAt W om S ∧ ∀ q, om = some q → b + 1 < q
  b0 : W.heap[b]? = some (.cells #[.map none] 64 (0, 0))
  bel : Below w.heap.size w W
set_option maxRecDepth 100000 in
set_option maxHeartbeats 4000000 in
theorem setof_any (w : World) (ao : Option Addr) (m cc : Nat) (xs : List Int) (hx : LAt w ao m xs) (hw : ∀ x ∈ xs, (Lit.int .i64 x).wf = true) (hm : m ≤ 500000) : Calls Try.prog 54 #[.slice ao m cc] w fun e W => ∃ om, e = .returned (.agg #[.map om]) ∧ Hid (StAt W om (setL xs) ∧ (∀ q, om = some q → w.heap.size ≤ q ∧ q < W.heap.size) ∧ Below w.heap.size w W) := by
  have HX : Hid (∀ W, Below w.heap.size w W → LAt W ao m xs) := Hid.mk (fun W hB => hx.next hB)
  have HW := Hid.mk hw
  have HM : Hid (m ≤ 500000 ∧ xs.length = m) := Hid.mk ⟨hm, hx.1⟩
  obtain ⟨b, hb⟩ : ∃ b, b = w.heap.size := ⟨_, rfl⟩
  obtain ⟨w1, hw1⟩ : ∃ w1, w1 = (w.alloc (.cells #[.map none] 64)).alloc (.cells #[.map none] 64) := ⟨_, rfl⟩
  have H1 : Hid (SoI w b [] w1) := Hid.mk (by
    have e1 := blk_new (w.alloc (.cells #[.map none] 64)) (.cells #[.map none] 64)
    have hB : Below w.heap.size w (w.alloc (.cells #[.map none] 64)) := (Below.refl _ w).alloc (Nat.le_refl _) _
    rw [show (w.alloc (.cells #[.map none] 64)).heap.size = w.heap.size + 1 by simp] at e1
    refine ⟨⟨none, by rw [hw1, hb]; exact e1, StAt.nil _, fun q e => by cases e⟩, ?_, by rw [hw1]; exact hB.alloc (by simp) _⟩
    rw [hw1, hb, Below.heap_alloc _ _ _ (by simp)]
    exact blk_new w _)
  clear hx hw hm
  go_enter Try.func54, Try.ntmps54
  go_wp2
  rw [← hw1, ← hb]
  have HBE := Hid.mk hb
  clear hw1 hb
  go_loopw [5, 8] (fun _ kv wr => ∃ k : Nat, kv = .int .i64 k ∧ Hid (k ≤ m ∧ SoI w b (setL (xs.take k)) wr)) (fun _ kv _ => m - (Go.RowKit.intOf kv).toNat)
  case atStart => exact ⟨0, rfl, Hid.mk ⟨Nat.zero_le _, H1.out⟩⟩
  case round =>
    obtain ⟨k, rfl, HK⟩ := hrel
    clear H1
    by_cases hkl : (k : Int) < (m : Int)
    · have HKL : Hid (k < m ∧ k < xs.length) := Hid.mk (by have := HM.out; omega)
      have v1 : IntKind.i64.wrap ((k : Int) + 1) = ((k + 1 : Nat) : Int) := by have := HM.out; rw [IntKind.wrap_i64]; omega
      have k0 : (0 : Int) ≤ (k : Int) := by omega
      obtain ⟨a, rfl, _, hca⟩ := (HX.out wr HK.out.2.bel).2 (by omega)
      have q1 := hca k HKL.out.1
      have HTK : Hid (setL (xs.take (k + 1)) = insS (xs.getD k 0) (setL (xs.take k)) ∧ (Lit.int .i64 (xs.getD k 0)).wf = true) := Hid.mk ⟨by
        rw [take_snocG HKL.out.2, setL_snoc], HW.out _ (by rw [List.getD, List.getElem?_eq_getElem HKL.out.2]; exact List.getElem_mem _)⟩
      generalize xs.getD k 0 = x at q1 HTK
      have HADD : Hid (Calls Try.prog 47 #[.pointer (some ⟨b + 1, 0, none⟩), .int .i64 x] wr fun e W' => ∃ t : Bool, e = .returned (.bool t) ∧ Hid (SoI w b (setL (xs.take (k + 1))) W')) := Hid.mk (by
        obtain ⟨⟨om, h1, h2, h3⟩, h4, h5⟩ := HK.out.2
        refine (add_any wr (b + 1) 0 _ 64 om _ h1 rfl h2 (by have := setL_len (xs.take k); rw [List.length_take] at this; have := HM.out; omega) (fun e => by have := h3 _ e; omega) x HTK.out.2).mono ?_
        rintro e W' ⟨rfl, m', hm', a1, a2, a3⟩
        have hbw : w.heap.size = b := HBE.out.symm
        refine ⟨_, rfl, Hid.mk ⟨⟨m', by simpa using a1, by rw [HTK.out.1]; exact a2, fun q e => ?_⟩, ?_, h5.trans (a3.below h5.size (fun j hj => ?_))⟩⟩
        · rcases hm' with rfl | ⟨_, q', e', hq'⟩
          · exact h3 q e
          · rw [e'] at e
            cases e
            have := lt_of_block h1
            omega
        · rw [a3.block b (lt_of_block h4) (fun q => ?_)]
          · exact h4
          · rcases q with q | q
            · omega
            · have := h3 _ q; omega
        · rcases hj with hj | hj
          · omega
          · have := h3 _ hj; omega)
      clear hca HTK HK
      go_wp2_with (first
        | (go_at_call 47; refine HADD.out.mono ?_; rintro e w3 ⟨t3, rfl, H3⟩; clear HADD)
        | go_in)
      go_roundw
      case rel => exact ⟨k + 1, rfl, Hid.mk ⟨HKL.out.1, H3.out⟩⟩
      case measure => (have := HKL.out; simp [Go.RowKit.intOf]; omega)
    · have HS : Hid (SoI w b (setL xs) wr) := Hid.mk (by
        have := HK.out.2
        rw [List.take_of_length_le (by have := HM.out; omega)] at this
        exact this)
      obtain ⟨⟨om, h1, h2, h3⟩, h4, h5⟩ := HS.out
      have c1 : wr.cell? ⟨b + 1, 0, none⟩ = some (.map om) := by rw [blk_cell h1]; rfl
      have c0 : wr.cell? ⟨b, 0, none⟩ = some (.map none) := by rw [blk_cell h4]; rfl
      have f0 : wr.frozen? ⟨b, 0, none⟩ = false := blk_free h4 0
      have HF : Hid ((wr.setCell ⟨b, 0, none⟩ (.map om)).cell? ⟨b, 0, none⟩ = some (.map om) ∧ StAt (wr.setCell ⟨b, 0, none⟩ (.map om)) om (setL xs) ∧ (∀ q, om = some q → w.heap.size ≤ q ∧ q < (wr.setCell ⟨b, 0, none⟩ (.map om)).heap.size) ∧ Below w.heap.size w (wr.setCell ⟨b, 0, none⟩ (.map om))) := Hid.mk (by
        have hbw : w.heap.size = b := HBE.out.symm
        refine ⟨by rw [blk_cell (blk_set h4)]; rfl, h2.kept (fun q e => Below.heap_setCell _ _ _ _ (show q ≠ b by have := h3 q e; omega)), fun q e => ⟨by have := h3 q e; omega, ?_⟩, h5.setCell (p := ⟨b, 0, none⟩) (by simp; omega) _⟩
        subst e
        have := h2.lt
        simpa using this)
      clear HK HS h1 h2 h3 h4 h5 HX
      go_wp2
      refine bodyPost_ret (results_set (a := 2) (b := b) (om := om) Try.results54 rfl HF.out.1) rfl ?_
      exact ⟨om, rfl, Hid.mk HF.out.2⟩
/-- Who is come to from xs. -/
inductive Reach (G : Gp) (xs : List Int) : Int → Prop where
  | here {i : Int} (h : i ∈ xs) : Reach G xs i
  | step {i x : Int} (h : Reach G xs i) (hu : und G i) (hx : hng G i x) : Reach G xs x
/-- Between two steps of under: S seen, L to do, ys handed over. -/
structure UnI (G : Gp) (xs S L ys : List Int) : Prop where
  nd : ys.Nodup
  ld : L.Nodup
  ls : ∀ x ∈ L, x ∈ S ∧ x ∉ ys
  yu : ∀ y ∈ ys, und G y ∧ y ∈ S
  all : ∀ x ∈ S, x ∈ L ∨ x ∈ ys ∨ ¬ und G x
  xs' : ∀ x ∈ xs, x ∈ S
  cl : ∀ y ∈ ys, ∀ x, hng G y x → x ∈ S
  re : ∀ x ∈ S, Reach G xs x
  ln : L.length ≤ S.length
def UnEnd (G : Gp) (xs ys : List Int) : Prop := ys.Nodup ∧ ∀ i, i ∈ ys ↔ und G i ∧ Reach G xs i
theorem un_start (G : Gp) (xs : List Int) (h : (setL xs).Pairwise (· < ·)) : UnI G xs (setL xs) (setL xs) [] :=
  ⟨List.nodup_nil, pw_nodup h, fun x hx => ⟨hx, by simp⟩, fun y hy => (by cases hy), fun x hx => .inl hx, fun x hx => setL_mem.2 hx, fun y hy => (by cases hy), fun x hx => .here (setL_mem.1 hx), Nat.le_refl _⟩
theorem un_end {G : Gp} {xs S ys : List Int} (h : UnI G xs S [] ys) : UnEnd G xs ys := by
  refine ⟨h.nd, fun i => ⟨fun hi => ⟨(h.yu i hi).1, h.re i (h.yu i hi).2⟩, fun hi => ?_⟩⟩
  have hS : i ∈ S := by
    have : ∀ x, Reach G xs x → x ∈ S := fun x hx => by
      induction hx with
      | here hm => exact h.xs' _ hm
      | step hr hu hx ih =>
        rcases h.all _ ih with q | q | q
        · cases q
        · exact h.cl _ q _ hx
        · exact absurd hu q
    exact this i hi.2
  rcases h.all i hS with q | q | q
  · cases q
  · exact q
  · exact absurd hi.1 q
/-- One that is done, or none, is taken off. -/
theorem un_skip {G : Gp} {xs S L ys : List Int} {x : Int} (h : UnI G xs S (L ++ [x]) ys) (hx : ¬ und G x) : UnI G xs S L ys :=
  ⟨h.nd, (List.nodup_append.1 h.ld).1, fun y hy => h.ls y (by simp [hy]), h.yu, fun y hy => by
    rcases h.all y hy with q | q | q
    · rcases List.mem_append.1 q with q | q
      · exact .inl q
      · rw [List.mem_singleton.1 q]; exact .inr (.inr hx)
    · exact .inr (.inl q)
    · exact .inr (.inr q), h.xs', h.cl, h.re, by have := h.ln; simp at this; omega⟩
theorem rise_sub {S T : List Int} (hS : S.Pairwise (· < ·)) (hT : T.Pairwise (· < ·)) (h : ∀ x ∈ S, x ∈ T) : S.length ≤ T.length := by
  have e : S = T.filter (fun x => decide (x ∈ S)) := rise_ext hS (hT.filter _) (fun x => by
    rw [List.mem_filter, decide_eq_true_eq]
    exact ⟨fun q => ⟨h x q, q⟩, fun q => q.2⟩)
  rw [e]
  exact List.length_filter_le _ _
theorem setL_pw (xs : List Int) : (setL xs).Pairwise (· < ·) := by
  have gen : ∀ (xs : List Int) (S : List Int), S.Pairwise (· < ·) → (xs.foldl (fun S x => insS x S) S).Pairwise (· < ·) := by
    intro xs
    induction xs with
    | nil => intro S h; exact h
    | cons x r ih => intro S h; exact ih _ (ins_pw h)
  exact gen xs [] List.Pairwise.nil
theorem reach_len {G : Gp} {xs S : List Int} (hS : S.Pairwise (· < ·)) (h : ∀ x ∈ S, Reach G xs x) : S.length ≤ xs.length + G.n := by
  have h1 : S.length ≤ (setL (xs ++ (List.range G.n).map (fun j : Nat => (j : Int)))).length := rise_sub hS (setL_pw _) (fun x hx => by
    rw [setL_mem, List.mem_append]
    cases h x hx with
    | here hm => exact .inl hm
    | step _ _ hx =>
      have hu := hx.2.1
      exact .inr (List.mem_map.2 ⟨x.toNat, List.mem_range.2 (by omega), by omega⟩))
  have h2 := setL_len (xs ++ (List.range G.n).map (fun j : Nat => (j : Int)))
  simp at h2
  omega
end Go.Proofs.Ythmbhcmicebcpaa
namespace Go.Proofs.Ythmbhcmicebcpaa
open Go Go.Proofs Go.RowKit Go.Shelf
/-- It: the iterator's own blocks. -/
theorem wpIn_range_own {σ : Type} {n : Nat} {P : Program} {g : Operand} {ps : Array Tmp} {assign body : Code} {Q : Exit → Act → World → Prop} {a : Act} {w : World}
    {gf : Nat} {lb : Array Value} (hg : a.eval g = .func (.func gf) #[] lb) (eg : ∀ args w, (callFunc gf args).run P w = .ok (.enter gf args) w)
    (T : σ → σ → Array Value → Prop) (hV : ∀ s s' v, T s s' v → v.size = ps.size) (Fin : σ → Prop) (s0 : σ)
    (I : σ → (Nat → Prop) → World → Prop)
    (hI : ∀ s It It' A B S, I s It A → Only S A B → (∀ k, S k → It k ∨ k = w.heap.size ∨ k = w.heap.size + 1) → (∀ k, It' k → It k ∨ A.heap.size ≤ k) → I s It' B)
    (h0 : I s0 (fun _ => False) w)
    (hit : ∀ (l : Nat) (J : σ → (Nat → Prop) → World → Prop) (W : World), (∀ s It A, J s It A → I s It A) → (∀ s It It' A B, J s It A → Only It A B → (∀ k, It' k → It k ∨ A.heap.size ≤ k) → J s It' B) → w.grownBy W none → w.heap.size + 2 ≤ W.heap.size →
      (∀ s s' v It A, J s It A → T s s' v → YieldAt Fence.wide (n - 1 - 1) P l v A fun e W' => e = .returned (.bool true) ∧ (∀ k, It k → k < A.heap.size → W'.heap[k]? = A.heap[k]?) ∧ A.heap.size ≤ W'.heap.size ∧ J s' (fun k => It k ∧ k < A.heap.size) W') → J s0 (fun _ => False) W →
      CallsIn Fence.wide (n - 1) P gf (#[.func (.yield l) #[] #[]] ++ lb) W fun e W' => (∃ v, e = .returned v) ∧ ∃ s It, Fin s ∧ J s It W')
    (a₁ : Array Value → Act)
    (hassign : ∀ (l : Nat) (s s' : σ) (v : Array Value) (W : World) (K : Act → World → Prop), T s s' v → K (a₁ v) W →
      assign.wpIn (Fence.wide.inRound l) (n - 1 - 1) P (Exit.then K (fun _ _ _ => False)) { tmps := (ps.zip v).foldl (fun t (p, v) => t.setIfInBounds p v) a.tmps, defers := [] } W)
    (hbody : ∀ (l : Nat) (s s' : σ) (v : Array Value) (It : Nat → Prop) (W : World), T s s' v → I s It W → (∀ k, It k → w.heap.size + 2 ≤ k) → w.heap.size + 2 ≤ W.heap.size → body.wpIn (Fence.wide.inRound l) (n - 1 - 1) P (fun e _ W' => W'.heap[w.heap.size]? = W.heap[w.heap.size]? ∧ W'.heap[w.heap.size + 1]? = W.heap[w.heap.size + 1]? ∧ (∀ k, It k → k < W.heap.size → W'.heap[k]? = W.heap[k]?) ∧ W.heap.size ≤ W'.heap.size ∧
      e = .normal ∧ I s' (fun k => It k ∧ k < W.heap.size) W') (a₁ v) W)
    (hdone : ∀ (D : Nat) (s : σ) (It : Nat → Prop) (W : World), D = w.heap.size → Fin s → I s It W → W.heap[D]? = some (.deferred (some [])) → Q .normal { a with defers := { target := .collected D, args := #[] } :: a.defers } W) :
    (Code.rangeFunc g ps assign body).wpIn Fence.wide n P Q a w := by
  refine wpIn_rangeFunc ?_
  intro fn hfn
  obtain ⟨rec, hrec⟩ : ∃ rec : LoopState → Option Code → Loop, rec = fun st pe => { state := st, pending := pe, fn, tmps := a.tmps, params := ps, assign, body, defers := w.heap.size } := ⟨_, rfl⟩
  obtain ⟨W1, hW1⟩ : ∃ W1, W1 = (w.alloc (.deferred (some []))).alloc (.loop (rec .ready none)) := ⟨_, rfl⟩
  have b1 : W1.heap[w.heap.size + 1]? = some (.loop (rec .ready none)) := by
    have := blk_new (w.alloc (.deferred (some []))) (.loop (rec .ready none))
    rw [hW1]
    rwa [World.size_alloc] at this
  have b0 : W1.heap[w.heap.size]? = some (.deferred (some [])) := by
    rw [hW1, Below.heap_alloc _ _ _ (by simp)]
    exact blk_new w _
  have hg1 : w.grownBy W1 none := by
    rw [hW1]
    exact ⟨rfl, rfl, rfl, by simp; omega, fun k hk _ => by rw [Below.heap_alloc _ _ _ (by simp; omega), Below.heap_alloc _ _ _ hk]⟩
  refine ⟨w.heap.size + 1, [{ target := .collected w.heap.size, args := #[] }], W1, { target := .fn (.func gf) lb, args := #[.func (.yield (w.heap.size + 1)) #[] #[]] }, W1, gf,
    #[.func (.yield (w.heap.size + 1)) #[] #[]] ++ lb, W1, ?_, ?_, fun _ _ => trivial, ?_, fun h => by simp [Fence.wide] at h, ?_⟩
  · rw [hW1, hrec]
    exact run_enterLoop_outer _ _ _ _ _
  · simp only [resolve, hg]
    simp [go_sem]
  · simp [invoke, go_sem, eg]
  · refine (hit (w.heap.size + 1) (fun s It A => I s It A ∧ A.heap[w.heap.size + 1]? = some (.loop (rec .ready none)) ∧ A.heap[w.heap.size]? = some (.deferred (some [])) ∧ ∀ k, It k → w.heap.size + 2 ≤ k) W1 (fun s It A h => h.1) (fun s It It' A B h hO hI' => ⟨hI s It It' A B It h.1 hO (fun k q => .inl q) hI', (hO.block _ (lt_of_block h.2.1) (fun q => by have := h.2.2.2 _ q; omega)).trans h.2.1, (hO.block _ (lt_of_block h.2.2.1) (fun q => by have := h.2.2.2 _ q; omega)).trans h.2.2.1, fun k q => (hI' k q).elim (h.2.2.2 k) (fun e => by have := lt_of_block h.2.1; omega)⟩) hg1 (by rw [hW1]; simp) ?_ ⟨hI s0 _ _ w W1 (fun _ => False) h0 ((Only.refl _ w).grown hg1 (fun k hk => by cases hk)) (fun _ q => q.elim) (fun _ q => q.elim), b1, b0, fun _ q => q.elim⟩).mono ?_
    · rintro s s' v It A ⟨hIk, hl, hd, hit2⟩ hT
      have hlt : w.heap.size + 1 < A.heap.size := lt_of_block hl
      have hy := run_yield (P := P) (args := v) hl (by rw [hrec]; exact hV s s' v hT)
      rw [hrec] at hy
      refine ⟨fn, _, assign, body, hy, roundIn_of_wpIn hfn (hassign _ s s' v A _ hT ⟨_, run_beginRound hl (by rw [hrec]), ?_⟩)⟩
      have hl2 : (A.putObj (w.heap.size + 1) (.loop { rec .ready none with state := .busy })).heap[w.heap.size + 1]? = some (.loop { rec .ready none with state := .busy }) := World.putObj_heap_same hlt
      have hd2 : (A.putObj (w.heap.size + 1) (.loop { rec .ready none with state := .busy })).heap[w.heap.size]? = some (.deferred (some [])) := (World.putObj_heap_other (by omega)).trans hd
      have hO2 : ∀ (X : World) (o : Obj), Only (fun k => k = w.heap.size + 1) X (X.putObj (w.heap.size + 1) o) := fun X o => (Only.refl (fun k => k = w.heap.size + 1) X).grown (grownBy_putObj' _ _ _) (fun k hk => by cases hk; exact .inl rfl)
      have fin : ∀ (jump : Option Code) (W3 : World), W3.heap[w.heap.size + 1]? = some (.loop { rec .ready none with state := .busy }) → W3.heap[w.heap.size]? = some (.deferred (some [])) →
          (Instr.endRound (w.heap.size + 1) jump).run P W3 = .ok (.bool jump.isNone) (W3.putObj (w.heap.size + 1) (.loop (rec (if jump.isNone then .ready else .done) jump))) ∧
          (W3.putObj (w.heap.size + 1) (.loop (rec (if jump.isNone then .ready else .done) jump))).heap[w.heap.size + 1]? = some (.loop (rec (if jump.isNone then .ready else .done) jump)) ∧
          (W3.putObj (w.heap.size + 1) (.loop (rec (if jump.isNone then .ready else .done) jump))).heap[w.heap.size]? = some (.deferred (some [])) := fun jump W3 hl3 hd3 => by
        have := run_endRound (P := P) jump hl3
        rw [hrec] at this ⊢
        exact ⟨this, World.putObj_heap_same (lt_of_block hl3), (World.putObj_heap_other (by omega)).trans hd3⟩
      refine wpIn_mono (hbody (w.heap.size + 1) s s' v It _ hT (hI s It It A _ _ hIk (hO2 A _) (fun k q => .inr (.inr q)) (fun k q => .inl q)) hit2 (by simp; omega)) ?_
      rintro e a3 W3 ⟨hd3, hl3, hit3, hs3, rfl, hi3⟩
      rw [hl2] at hl3
      rw [hd2] at hd3
      obtain ⟨hr, hl4, hk4⟩ := fin none W3 hl3 hd3
      refine ⟨_, _, hr, rfl, fun k q hkl => ?_, ?_, hI s' _ _ W3 _ _ hi3 (hO2 W3 _) (fun k q => .inr (.inr q)) (fun k q => .inl ⟨q.1, by simp; exact q.2⟩), hl4, hk4, fun k q => hit2 k q.1⟩
      · have hne : k ≠ w.heap.size + 1 := by have := hit2 k q; omega
        rw [World.putObj_heap_other (by omega), hit3 k q (by simp; exact hkl), World.putObj_heap_other (by omega)]
      · simp at hs3 ⊢
        exact hs3
    · rintro e W2 ⟨⟨v, rfl⟩, s, It, hf, hi, hl, hk, hit2⟩
      have hO2 : ∀ (X : World) (o : Obj), Only (fun k => k = w.heap.size + 1) X (X.putObj (w.heap.size + 1) o) := fun X o => (Only.refl (fun k => k = w.heap.size + 1) X).grown (grownBy_putObj' _ _ _) (fun k hk => by cases hk; exact .inl rfl)
      exact ⟨none, _, by have := run_endLoop (P := P) hl (by rw [hrec]; simp); rw [hrec] at this; exact this, hdone _ s It _ rfl hf (hI s It It W2 _ _ hi (hO2 W2 _) (fun k q => .inr (.inr q)) (fun k q => .inl q)) ((World.putObj_heap_other (by omega)).trans hk)⟩
end Go.Proofs.Ythmbhcmicebcpaa
