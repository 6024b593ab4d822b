/-
  The places of nodes: anew.Places.
-/
import Derived.Test.YtbahbhaoimabdaaWkBack
import Derived.Test.YtbahbhaoimabdaaTrMap
import Derived.BigRegionIn
import Derived.BigFrameIn
namespace Go.Proofs.Ytbahbhaoimabdaa
open Go Go.Proofs Go.RowKit Go.Shelf
open Go.ChangeMaps (setBlock heap_setBlock_same heap_setBlock_other)
attribute [local go_sem] Oper.semAt_some

theorem wpIn_range_kx {n : Nat} {P : Program} {g : Operand} {ps : Array Tmp} {assign body : Code} {Q : Exit → Act → World → Prop} {a : Act} {w : World}
    {gf : Nat} {lb : Array Value} (hg : a.eval g = .func (.func gf) #[] lb) (eg : ∀ args w, (callFunc gf args).run P w = .ok (.enter gf args) w)
    (N : Nat) (V : Nat → Array Value) (hV : ∀ k, (V k).size = ps.size)
    (I : Nat → World → Prop) (X : World → Prop)
    (hI : ∀ k A B row, I k A → A.grownBy B row → (∀ r, row = some r → r = w.heap.size + 1) → I k B)
    (hX : ∀ A B row, X A → A.grownBy B row → (∀ r, row = some r → r = w.heap.size + 1) → X B) (h0 : I 0 w)
    (hit : ∀ (l : Nat) (J : Nat → World → Prop) (Jx : World → Prop) (W : World), (∀ k A, J k A → I k A) → w.grownBy W none →
      (∀ k A, J k A → k < N → YieldAt Fence.wide (n - 1 - 1) P l (V k) A fun e W' => (e = .returned (.bool true) ∧ J (k + 1) W') ∨ (e = .returned (.bool false) ∧ Jx W')) → J 0 W →
      CallsIn Fence.wide (n - 1) P gf (#[.func (.yield l) #[] #[]] ++ lb) W fun e W' => (∃ v, e = .returned v) ∧ (J N W' ∨ Jx W'))
    (asA : Nat → World → Act) (asW : Nat → World → World) (has : ∀ (k : Nat) (W : World), W.grownBy (asW k W) none)
    (hassign : ∀ (l k : Nat) (W : World) (K : Act → World → Prop), K (asA k W) (asW k W) →
      assign.wpIn (Fence.wide.inRound l) (n - 1 - 1) P (Exit.then K (fun _ _ _ => False)) { tmps := (ps.zip (V k)).foldl (fun t (p, v) => t.setIfInBounds p v) a.tmps, defers := [] } W)
    (hbody : ∀ (l k : Nat) (W W2 : World), I k W → k < N → w.heap.size + 2 ≤ W.heap.size → (asW k W).grownBy W2 (some (w.heap.size + 1)) → W2.heap.size = (asW k W).heap.size →
      body.wpIn (Fence.wide.inRound l) (n - 1 - 1) P (fun e _ W' => W'.heap[w.heap.size]? = W2.heap[w.heap.size]? ∧ W'.heap[w.heap.size + 1]? = W2.heap[w.heap.size + 1]? ∧
      ((e = .normal ∧ I (k + 1) W') ∨ (e = .ret ∧ X W'))) (asA k W) W2)
    (hdone : ∀ (D : Nat) (W : World), D = w.heap.size → I N W → W.heap[D]? = some (.deferred (some [])) → Q .normal { a with defers := { target := .collected D, args := #[] } :: a.defers } W)
    (hstop : ∀ (D : Nat) (W : World), D = w.heap.size → X W → W.heap[D]? = some (.deferred (some [])) → Code.ret.wpIn Fence.wide n P Q { a with defers := { target := .collected D, args := #[] } :: a.defers } W) :
    (Code.rangeFunc g ps assign body).wpIn Fence.wide n P Q a w := by
  refine wpIn_rangeFunc ?_
  intro fn hfn
  obtain ⟨rec, hrec⟩ : ∃ rec : LoopState → Option Code → Loop, rec = fun st pe => { state := st, pending := pe, fn, tmps := a.tmps, params := ps, assign, body, defers := w.heap.size } := ⟨_, rfl⟩
  obtain ⟨W1, hW1⟩ : ∃ W1, W1 = (w.alloc (.deferred (some []))).alloc (.loop (rec .ready none)) := ⟨_, rfl⟩
  have b1 : W1.heap[w.heap.size + 1]? = some (.loop (rec .ready none)) := by
    have := blk_new (w.alloc (.deferred (some []))) (.loop (rec .ready none))
    rw [hW1]
    rwa [World.size_alloc] at this
  have b0 : W1.heap[w.heap.size]? = some (.deferred (some [])) := by
    rw [hW1, Below.heap_alloc _ _ _ (by simp)]
    exact blk_new w _
  have hg1 : w.grownBy W1 none := by
    rw [hW1]
    exact ⟨rfl, rfl, rfl, by simp; omega, fun k hk _ => by rw [Below.heap_alloc _ _ _ (by simp; omega), Below.heap_alloc _ _ _ hk]⟩
  refine ⟨w.heap.size + 1, [{ target := .collected w.heap.size, args := #[] }], W1, { target := .fn (.func gf) lb, args := #[.func (.yield (w.heap.size + 1)) #[] #[]] }, W1, gf,
    #[.func (.yield (w.heap.size + 1)) #[] #[]] ++ lb, W1, ?_, ?_, fun _ _ => trivial, ?_, fun h => by simp [Fence.wide] at h, ?_⟩
  · rw [hW1, hrec]
    exact run_enterLoop_outer _ _ _ _ _
  · simp only [resolve, hg]
    simp [go_sem]
  · simp [invoke, go_sem, eg]
  · refine (hit (w.heap.size + 1) (fun k A => I k A ∧ A.heap[w.heap.size + 1]? = some (.loop (rec .ready none)) ∧ A.heap[w.heap.size]? = some (.deferred (some [])))
      (fun A => X A ∧ A.heap[w.heap.size + 1]? = some (.loop (rec .done (some .ret))) ∧ A.heap[w.heap.size]? = some (.deferred (some []))) W1 (fun k A h => h.1) hg1 ?_ ⟨hI 0 w W1 none h0 hg1 (by simp), b1, b0⟩).mono ?_
    · rintro k A ⟨hIk, hl, hd⟩ hk
      have hlt : w.heap.size + 1 < A.heap.size := lt_of_block hl
      have hy := run_yield (P := P) (args := V k) hl (by rw [hrec]; exact hV k)
      rw [hrec] at hy
      have hga := has k A
      have hla : (asW k A).heap[w.heap.size + 1]? = some (.loop (rec .ready none)) := (hga.block _ hlt (by simp)).trans hl
      have hda : (asW k A).heap[w.heap.size]? = some (.deferred (some [])) := (hga.block _ (lt_of_block hd) (by simp)).trans hd
      have hlta : w.heap.size + 1 < (asW k A).heap.size := lt_of_block hla
      refine ⟨fn, _, assign, body, hy, roundIn_of_wpIn hfn (hassign _ k A _ ⟨_, run_beginRound hla (by rw [hrec]), ?_⟩)⟩
      have hl2 : ((asW k A).putObj (w.heap.size + 1) (.loop { rec .ready none with state := .busy })).heap[w.heap.size + 1]? = some (.loop { rec .ready none with state := .busy }) := World.putObj_heap_same hlta
      have hd2 : ((asW k A).putObj (w.heap.size + 1) (.loop { rec .ready none with state := .busy })).heap[w.heap.size]? = some (.deferred (some [])) := (World.putObj_heap_other (by omega)).trans hda
      have fin : ∀ (jump : Option Code) (W3 : World), W3.heap[w.heap.size + 1]? = some (.loop { rec .ready none with state := .busy }) → W3.heap[w.heap.size]? = some (.deferred (some [])) →
          (Instr.endRound (w.heap.size + 1) jump).run P W3 = .ok (.bool jump.isNone) (W3.putObj (w.heap.size + 1) (.loop (rec (if jump.isNone then .ready else .done) jump))) ∧
          (W3.putObj (w.heap.size + 1) (.loop (rec (if jump.isNone then .ready else .done) jump))).heap[w.heap.size + 1]? = some (.loop (rec (if jump.isNone then .ready else .done) jump)) ∧
          (W3.putObj (w.heap.size + 1) (.loop (rec (if jump.isNone then .ready else .done) jump))).heap[w.heap.size]? = some (.deferred (some [])) := fun jump W3 hl3 hd3 => by
        have := run_endRound (P := P) jump hl3
        rw [hrec] at this ⊢
        exact ⟨this, World.putObj_heap_same (lt_of_block hl3), (World.putObj_heap_other (by omega)).trans hd3⟩
      refine wpIn_mono (hbody (w.heap.size + 1) k A _ hIk hk (by omega) (grownBy_putObj' _ _ _) (by simp)) ?_
      rintro e a3 W3 ⟨hd3, hl3, hp⟩
      rw [hl2] at hl3
      rw [hd2] at hd3
      rcases hp with ⟨rfl, hi3⟩ | ⟨rfl, hx3⟩
      · obtain ⟨hr, hl4, hk4⟩ := fin none W3 hl3 hd3
        exact ⟨_, _, hr, .inl ⟨rfl, hI (k + 1) W3 _ (some (w.heap.size + 1)) hi3 (grownBy_putObj' _ _ _) (fun r e => by cases e; rfl), hl4, hk4⟩⟩
      · obtain ⟨hr, hl4, hk4⟩ := fin (some .ret) W3 hl3 hd3
        exact ⟨_, _, hr, .inr ⟨rfl, hX W3 _ (some (w.heap.size + 1)) hx3 (grownBy_putObj' _ _ _) (fun r e => by cases e; rfl), hl4, hk4⟩⟩
    · rintro e W2 ⟨⟨v, rfl⟩, (⟨hi, hl, hk⟩ | ⟨hx, hl, hk⟩)⟩
      · exact ⟨none, _, by have := run_endLoop (P := P) hl (by rw [hrec]; simp); rw [hrec] at this; exact this, hdone _ _ rfl (hI N W2 _ (some (w.heap.size + 1)) hi (grownBy_putObj' _ _ _) (fun r e => by cases e; rfl)) ((World.putObj_heap_other (by omega)).trans hk)⟩
      · exact ⟨some .ret, _, by have := run_endLoop (P := P) hl (by rw [hrec]; simp); rw [hrec] at this; exact this, hstop _ _ rfl (hX W2 _ (some (w.heap.size + 1)) hx (grownBy_putObj' _ _ _) (fun r e => by cases e; rfl)) ((World.putObj_heap_other (by omega)).trans hk)⟩
section
variable {F : Fence} {n : Nat} {w : World} {ops : Array Oper} {rest : List Oper} {o : Oper} {a : Act} {Q : Exit → Act → World → Prop}
theorem wpLIn_stored (hp : ∀ c, o.op ≠ .defer c) (ha : o.about Try.prog w a.eval = none) (hw : Region.wanted o (yielded ops a.tmps) = true) (w' : World) (hrun : (execOp a.eval o).run Try.prog w = .ok .skip w') (h : wpListIn F n Try.prog ops Q rest (a.put o.dst undef) w') : wpListIn F n Try.prog ops Q (o :: rest) a w := by
  refine BigFrame.wpListIn_want hw fun K hK => ?_
  unfold Oper.wpIn
  refine ⟨fun f hf => (by rw [ha] at hf; cases hf), ?_⟩
  rw [Oper.semAt_plain F _ _ hp, hrun, Oper.uponIn_skip]
  exact hK _ _ h
end
theorem exec_upd {ev : Operand → Value} {oi : Oper} {m k v : Operand} {t : TypeId} {a b c : Value} {W W' : World} (ho : oi.op = .mapUpdate t m k v) (hm : ev m = a) (hk : ev k = b) (hv : ev v = c) (hr : (Instr.mapUpdate t a b c).run Try.prog W = .ok () W') : (execOp ev oi).run Try.prog W = .ok .skip W' := by
  unfold execOp
  simp only [ho, hm, hk, hv, Sem.run_bind, hr, Result.andThen_ok]
  rfl
theorem run_makeMap_hint (w : World) (m : Int) : (Instr.makeMap 74 (some (.int .i64 m))).run Try.prog w = .ok (.map (some w.heap.size)) (w.alloc (.map #[] 0)) := by
  simp [Instr.makeMap, run_underlying Try.underlying74, asInt, asIntOf, Result.andThen]
/-- What lies in the map behind q rounds. -/
noncomputable def plcF (m : Nat) (N : Nat → NoV) : Nat → Lit → Option Value
  | 0 => fun _ => none
  | q + 1 => updF (plcF m N q) (.int .i64 (N (m - 1 - q)).ino) (some (.int .i64 ((m - 1 - q : Nat) : Int)))
set_option maxRecDepth 100000 in
set_option maxHeartbeats 4000000 in
theorem backward_any (w : World) (ao : Option Addr) (m cc : Nat) : Calls Try.prog 56 #[.slice ao m cc] w fun e w' => e = .returned (.func (.func 60) #[] #[.pointer (some ⟨w.heap.size, 0, none⟩)]) ∧ w' = w.alloc (.cells #[.slice ao m cc] 22) := by
  go_enter Try.func56, Try.ntmps56
  go_wp2
  go_ret
  exact ⟨rfl, rfl⟩
/-- Between two rounds. -/
structure PlI (w : World) (ao : Option Addr) (m cc : Nat) (N : Nat → NoV) (k : Nat) (W : World) : Prop where
  map : ∃ c, c ≤ k ∧ MAt W 3 w.heap.size c (plcF m N k)
  box : W.heap[w.heap.size + 1]? = some (.cells #[.map (some w.heap.size)] 74 (0, 0))
  row : W.heap[w.heap.size + 2]? = some (.cells #[.slice ao m cc] 22 (0, 0))
  below : Below w.heap.size w W
  size : w.heap.size + 3 ≤ W.heap.size
theorem PlI_own {w : World} {ao : Option Addr} {m cc : Nat} {N : Nat → NoV} (k : Nat) (A B : World) (row : Option Nat) (h : PlI w ao m cc N k A) (hg : A.grownBy B row) (hr : ∀ r, row = some r → r = w.heap.size + 4) : PlI w ao m cc N k B := by
  have hs := h.size
  have hk : ∀ q, q < A.heap.size → q ≠ w.heap.size + 4 → B.heap[q]? = A.heap[q]? := fun q hq hne => hg.block q hq (fun e => hne (hr q e.symm))
  obtain ⟨c, hc, hm⟩ := h.map
  exact ⟨⟨c, hc, hm.kept (hk _ (by omega) (by omega))⟩, (hk _ (by omega) (by omega)).trans h.box, (hk _ (by omega) (by omega)).trans h.row, h.below.grown hg (by omega) (fun r e => by have := hr r e; omega), by have := hg.size; omega⟩
theorem alloc_grown (W : World) (o : Obj) : W.grownBy (W.alloc o) none := ⟨rfl, rfl, rfl, by simp, fun k hk _ => Below.heap_alloc _ _ _ hk⟩
set_option maxRecDepth 100000 in
set_option maxHeartbeats 4000000 in
theorem places_any (w : World) (ao : Option Addr) (m cc : Nat) (N : Nat → NoV) (hN : NoAt w ao m N) (hm : m ≤ 9223372036854775806) : Calls Try.prog 37 #[.slice ao m cc] w fun e w' => e = .returned (.map (some w.heap.size)) ∧ (∃ c, MAt w' 3 w.heap.size c (plcF m N m)) ∧ Below w.heap.size w w' := by
  have HN := Hid.mk hN
  have HM := Hid.mk hm
  clear hN hm
  refine (callsIn_wide (n := 5)).1 ?_
  refine callsIn_of_wp_marks Try.func37 rfl trivial ?_ rfl
  simp only [Try.ntmps37, List.size_toArray, List.length_cons, List.length_nil, Nat.reduceAdd, Nat.reduceSub, Array.replicate_succ, Array.replicate_zero, List.push_toArray, List.append_toArray, List.nil_append, List.cons_append]
  have HMK := Hid.mk (run_makeMap_hint w m)
  gi_wp2_with (first
    | (rw [HMK.out]; simp only [Result.andThen_ok])
    | (refine ⟨trivial, ?_⟩; gi_at_call 56; refine (callsIn_wide.2 (backward_any _ _ _ _)).mono ?_; rintro e w3 ⟨rfl, hw3⟩))
  have es : w3.heap.size = w.heap.size + 3 := by rw [hw3]; simp
  have eb : Below w.heap.size w w3 := by rw [hw3]; exact (((Below.refl _ w).alloc (Nat.le_refl _) _).alloc (by simp) _).alloc (by simp; omega) _
  have z1 : w3.heap[w.heap.size + 1]? = some (.cells #[.map (some w.heap.size)] 74 (0, 0)) := by
    rw [hw3, Below.heap_alloc _ _ _ (by simp)]
    exact two_new w _ _
  have z0 : MAt w3 3 w.heap.size 0 (fun _ => none) := by
    rw [hw3]
    exact (MAt.new w 3).kept ((Below.heap_alloc _ _ _ (by simp; omega)).trans (Below.heap_alloc _ _ _ (by simp)))
  have z2 : w3.heap[w.heap.size + 2]? = some (.cells #[.slice ao m cc] 22 (0, 0)) := by
    rw [hw3]
    have h : ((w.alloc (.map #[] 0)).alloc (.cells #[.map (some w.heap.size)] 74)).heap.size = w.heap.size + 2 := by simp
    rw [← h]
    exact blk_new _ _
  have hI0 : PlI w ao m cc N 0 w3 := ⟨⟨0, Nat.le_refl _, z0⟩, z1, z2, eb, by omega⟩
  clear z0 z1 z2 eb HMK
  rw [← hw3]
  clear hw3
  refine wpIn_range_kx (gf := 60) (lb := #[.pointer (some ⟨w.heap.size + 1 + 1, 0, none⟩)]) rfl (enters_of Try.func60 (by kernel_rfl) rfl) m (backV m N) (fun _ => rfl)
    (PlI w ao m cc N) (fun _ => False) (fun k A B row h hg hr => PlI_own k A B row h hg (fun r e => by have := hr r e; omega)) (fun _ _ _ h _ _ => h.elim) hI0 ?hit
    (fun k W => { tmps := #[.slice ao m cc, undef, .map none, .pointer (some ⟨w.heap.size + 1, 0, none⟩), .int .i64 ((m - 1 - k : Nat) : Int), .pointer (some ⟨W.heap.size, 0, none⟩), .slice ao m cc, .int .i64 m, .map (some w.heap.size), .slice ao m cc, .func (.func 60) #[] #[.pointer (some ⟨w.heap.size + 1 + 1, 0, none⟩)], .int .i64 ((m - 1 - k : Nat) : Int), .agg #[.int .i64 (N (m - 1 - k)).ino, .int .i64 (N (m - 1 - k)).kind, .int .i64 (N (m - 1 - k)).links, .int .i64 (N (m - 1 - k)).size, .slice (N (m - 1 - k)).bo (N (m - 1 - k)).bn (N (m - 1 - k)).bc, .slice (N (m - 1 - k)).so (N (m - 1 - k)).sn (N (m - 1 - k)).sc], undef, undef, undef, undef, undef], defers := [] })
    (fun k W => W.alloc (.cells #[.int .i64 (N (m - 1 - k)).ino, .int .i64 (N (m - 1 - k)).kind, .int .i64 (N (m - 1 - k)).links, .int .i64 (N (m - 1 - k)).size, .slice (N (m - 1 - k)).bo (N (m - 1 - k)).bn (N (m - 1 - k)).bc, .slice (N (m - 1 - k)).so (N (m - 1 - k)).sn (N (m - 1 - k)).sc] 39)) (fun k W => alloc_grown W _) ?assign ?body ?done ?stop
  case hit =>
    intro l J Jx W hJI hg hY h0'
    exact back_in 4 (by omega) l (w.heap.size + 2) ao m cc N (by have := HM.out; omega) J Jx W (fun k A hJ => ⟨(hJI k A hJ).row, HN.out.blw (hJI k A hJ).below⟩) hY h0'
  case assign =>
    intro l k W K hK
    unfold backV NoV.val
    generalize N (m - 1 - k) = x at *
    generalize ((m - 1 - k : Nat) : Int) = j at *
    obtain ⟨a0, a1, a2, a3, a4, n4, c4, P, a5, n5, c5, E⟩ := x
    dsimp only at hK ⊢
    gi_wp2
    exact hK
  case body =>
    intro lp k W W2 hI hk hsz hg2 hs2
    have hIa := PlI_own k W (W.alloc (.cells #[.int .i64 (N (m - 1 - k)).ino, .int .i64 (N (m - 1 - k)).kind, .int .i64 (N (m - 1 - k)).links, .int .i64 (N (m - 1 - k)).size, .slice (N (m - 1 - k)).bo (N (m - 1 - k)).bn (N (m - 1 - k)).bc, .slice (N (m - 1 - k)).so (N (m - 1 - k)).sn (N (m - 1 - k)).sc] 39)) none hI (alloc_grown W _) (by simp)
    have hI2 := PlI_own k _ W2 _ hIa hg2 (fun r e => by have := Option.some.inj e; omega)
    have hbx : W2.heap[W.heap.size]? = some (.cells #[.int .i64 (N (m - 1 - k)).ino, .int .i64 (N (m - 1 - k)).kind, .int .i64 (N (m - 1 - k)).links, .int .i64 (N (m - 1 - k)).size, .slice (N (m - 1 - k)).bo (N (m - 1 - k)).bn (N (m - 1 - k)).bc, .slice (N (m - 1 - k)).so (N (m - 1 - k)).sn (N (m - 1 - k)).sc] 39 (0, 0)) := (hg2.block W.heap.size (by simp) (fun e => by have := Option.some.inj e; omega)).trans (blk_new W _)
    have cx := blk_cell hbx 0
    have c1 := blk_cell hI2.box 0
    simp at cx c1
    obtain ⟨c, hc, hmp⟩ := hI2.map
    obtain ⟨-, -, -, -, -, -, -, hwf⟩ := no_at HN.out (show m - 1 - k < m by omega)
    obtain ⟨o, hr, hm2⟩ := hmp.put keyed3 Try.underlying74 (by unfold maxLen; have := HM.out; omega) (val := .int .i64 ((m - 1 - k : Nat) : Int)) (Maps.keyOf_int_mk Try.underlying3 hwf.2.2.1)
    have HR := Hid.mk hr
    have HI3 : Hid (PlI w ao m cc N (k + 1) (setBlock W2 w.heap.size o)) := Hid.mk ⟨⟨_, by split <;> omega, hm2⟩, (heap_set_other (by omega)).trans hI2.box, (heap_set_other (by omega)).trans hI2.row, ⟨hI2.below.os, hI2.below.tape, hI2.below.output, by have := hI2.below.size; simpa [setBlock] using this, fun q hq => (heap_set_other (by omega)).trans (hI2.below.block q hq)⟩, by have := hI2.size; simpa [setBlock] using this⟩
    have HQ : Hid ((setBlock W2 w.heap.size o).heap[w3.heap.size]? = W2.heap[w3.heap.size]? ∧ (setBlock W2 w.heap.size o).heap[w3.heap.size + 1]? = W2.heap[w3.heap.size + 1]?) := Hid.mk ⟨heap_set_other (by omega), heap_set_other (by omega)⟩
    clear hr hm2 hmp hwf hI2 hIa hI hg2 hs2 hbx hc hI0 hsz
    generalize ((m - 1 - k : Nat) : Int) = j at *
    generalize W.heap.size = bx at *
    gi_wp2_with (refine wpLIn_stored (by intro c h; cases h) rfl (by kernel_rfl) _ (exec_upd rfl (by kernel_rfl) (by kernel_rfl) (by kernel_rfl) HR.out) ?_; simp only [Act.put])
    exact ⟨by have := HQ.out.1; rwa [es] at this, by have := HQ.out.2; rwa [es] at this, HI3.out⟩
  case done =>
    rintro D W hD hI hKD
    have c1 := blk_cell hI.box 0
    simp at c1
    have HI := Hid.mk hI
    have HDK := Hid.mk hKD
    have HGO : Hid (Below w.heap.size w (W.putObj D (.deferred none))) := Hid.mk (hI.below.trans (belowK_b (w := w) (Nat.le_refl _) W D _ _ (by omega) hKD rfl rfl))
    have HMP : Hid (∃ c, MAt (W.putObj D (.deferred none)) 3 w.heap.size c (plcF m N m)) := Hid.mk (by
      obtain ⟨c, hc, hmp⟩ := hI.map
      exact ⟨c, hmp.kept ((grownBy_putObj' W D _).block _ (by have := hI.size; omega) (fun e => by have := Option.some.inj e; omega))⟩)
    clear hI hKD hI0
    gi_wp2
    refine ⟨by simp, .inl ⟨_, _, rfl, run_takeDeferred HDK.out, ?_⟩⟩
    refine ⟨.map (some w.heap.size), ?_, rfl, HMP.out, HGO.out⟩
    simp [results, Try.f37, go_sem]
  case stop =>
    intro D W hD h
    exact h.elim
end Go.Proofs.Ytbahbhaoimabdaa
