/-
  What the iterator over a block's entries hands over, for every loop body that goes on; the law of such a range.
-/
import Derived.RangeFuncNested
import Derived.RangeFuncBound
import Derived.RangeFuncCalls
import Derived.RangeFuncLeaves
import Derived.Shelf.Abstract
import Derived.Shelf.RegionOpen
import Derived.WalkKit
import Derived.OwnWalkIn
import Derived.TacticsInMore
import Derived.LoopNIn
import Derived.LoopIn
import Derived.Stop.RegionWithIn
import Derived.Test.YtpdekpdlmfnndaaRBlock
namespace Go.Proofs.Ytpdekpdlmfnndaa
open Go Go.Proofs Go.RowKit Go.Shelf
attribute [local go_sem] Oper.semAt_some

section
variable {F : Fence} {n : Nat} {w : World} {ops : Array Oper} {rest : List Oper} {o : Oper} {a : Act} {Q : Exit → Act → World → Prop}
theorem wpLIn_known (hp : ∀ c, o.op ≠ .defer c) (ha : o.about Try.prog w a.eval = none) (hw : Region.wanted o (yielded ops a.tmps) = true) (v : Value) (w' : World) (hrun : (execOp a.eval o).run Try.prog w = .ok (.value v) w') (h : wpListIn F n Try.prog ops Q rest (a.put o.dst v) w') : wpListIn F n Try.prog ops Q (o :: rest) a w := by
  refine BigFrame.wpListIn_want hw fun K hK => ?_
  unfold Oper.wpIn
  refine ⟨fun f hf => (by rw [ha] at hf; cases hf), ?_⟩
  rw [Oper.semAt_plain F _ _ hp, hrun, Oper.uponIn_value]
  exact hK _ _ h
theorem wpLIn_stored (hp : ∀ c, o.op ≠ .defer c) (ha : o.about Try.prog w a.eval = none) (hw : Region.wanted o (yielded ops a.tmps) = true) (w' : World) (hrun : (execOp a.eval o).run Try.prog w = .ok .skip w') (h : wpListIn F n Try.prog ops Q rest (a.put o.dst undef) w') : wpListIn F n Try.prog ops Q (o :: rest) a w := by
  refine BigFrame.wpListIn_want hw fun K hK => ?_
  unfold Oper.wpIn
  refine ⟨fun f hf => (by rw [ha] at hf; cases hf), ?_⟩
  rw [Oper.semAt_plain F _ _ hp, hrun, Oper.uponIn_skip]
  exact hK _ _ h
theorem wpLIn_load (x : Operand) (ho : o.op = .load 26 x) (hw : Region.wanted o (yielded ops a.tmps) = true) (b : Nat) (i : Int) (s : ByteArray) (hx : a.eval x = .pointer (some ⟨b, 0, none⟩)) (hN : NAt b i s w) (h : wpListIn F n Try.prog ops Q rest (a.put o.dst (entV i s)) w) : wpListIn F n Try.prog ops Q (o :: rest) a w :=
  wpLIn_known (by rw [ho]; intro c hc; cases hc) (by simp [Oper.about, ho]) hw _ _ (exec_load26 ho hx (load26_run hN)) h
theorem wpLIn_store (p x : Operand) (ho : o.op = .store 26 p x) (hw : Region.wanted o (yielded ops a.tmps) = true) (v u : Value) (w' : World) (hp : a.eval p = v) (hx : a.eval x = u) (hr : (Instr.storeAt 26 v u).run Try.prog w = .ok () w') (h : wpListIn F n Try.prog ops Q rest (a.put o.dst undef) w') : wpListIn F n Try.prog ops Q (o :: rest) a w :=
  wpLIn_stored (by rw [ho]; intro c hc; cases hc) (by simp [Oper.about, ho]) hw _ (exec_store ho hp hx hr) h
theorem wpLIn_new (ho : o.op = .alloc 26) (hw : Region.wanted o (yielded ops a.tmps) = true) (v : Value) (w' : World) (hr : (Instr.alloc 26 true (.tuple #[])).run Try.prog w = .ok v w') (h : wpListIn F n Try.prog ops Q rest (a.put o.dst v) w') : wpListIn F n Try.prog ops Q (o :: rest) a w :=
  wpLIn_known (by rw [ho]; intro c hc; cases hc) (by simp [Oper.about, ho]) hw _ _ (exec_alloc ho hr) h
theorem wpLIn_one (x : Operand) (ho : o.op = .buildSlice 24 1 #[(0, x)]) (hw : Region.wanted o (yielded ops a.tmps) = true) (i : Int) (s : ByteArray) (q : Nat) (W1 : World) (hq : q = w.heap.size) (hW : W1 = w.alloc (.cells (entC i s).toArray 26)) (hx : a.eval x = entV i s) (h : wpListIn F n Try.prog ops Q rest (a.put o.dst (.slice (some ⟨q, 0, none⟩) 1 1)) W1) : wpListIn F n Try.prog ops Q (o :: rest) a w := by
  subst hq hW
  exact wpLIn_known (by rw [ho]; intro c hc; cases hc) (by simp [Oper.about, ho]) hw _ _ (exec_one26 ho hx) h
theorem wpLIn_append (hgd : o.guard = none) (s x : Operand) (t : TypeId) (ho : o.op = .call { callee := .builtin .append, args := #[s, x], argTypes := #[t, t] }) (v vx v' : Value) (w' : World) (hs : a.eval s = v) (hx : a.eval x = vx)
    (hrun : (Builtin.append_ #[t, t] o.type #[v, vx]).run Try.prog w = .ok v' w') (h : wpListIn F n Try.prog ops Q rest (a.put o.dst v') w') : wpListIn F n Try.prog ops Q (o :: rest) a w := by
  refine wpListIn_plain hgd fun K hK => ?_
  unfold Oper.wpIn
  refine ⟨?_, ?_⟩
  · simp [Oper.about, ho, resolve, Target.leads, Sem.run_pure]
  · rw [Oper.semAt_plain F _ _ (by rw [ho]; intro c hc; cases hc)]
    simp [execOp, ho, resolve, invoke, builtin, hs, hx, hrun, Result.andThen]
    exact hK _ _ h
end

theorem each_any (w : World) (ao : Option Addr) (n c : Nat) :
    Calls Try.prog 20 #[.slice ao n c] w fun e w' => e = .returned (.func (.func 30) #[] #[.pointer (some ⟨w.heap.size, 0, none⟩)]) ∧ w' = w.alloc (.cells #[.slice ao n c] 27) := by
  go_enter Try.func20, Try.ntmps20
  go_wp2
  go_ret
  exact ⟨rfl, rfl⟩

/-- What is handed over: entry k of the block. -/
def eV (xs : List Int) (k : Nat) : Array Value := #[entV (rdI (blkAt xs k)) (rdS (blkAt xs k))]
theorem BAt.kept {W W' : World} {ao : Option Addr} {n : Nat} {xs : List Int} (h : BAt W ao n xs) (hk : ∀ a, ao = some a → 0 < n → W'.heap[a.block]? = W.heap[a.block]?) : BAt W' ao n xs := by
  refine ⟨h.1, fun hn => ?_⟩
  obtain ⟨a, e, hlt, hc⟩ := h.2 hn
  have hb := hk a e hn
  refine ⟨a, e, ?_, fun i hi => ?_⟩
  · rw [Array.getElem?_eq_getElem hlt] at hb
    exact (Array.getElem?_eq_some_iff.1 hb).1
  · rw [World.cell?_of_block (w := W) (by rw [add_block]; exact hb)]
    exact hc i hi
theorem below_grown {A B : World} (h : Below A.heap.size A B) : A.grownBy B none := ⟨h.os, h.tape, h.output, h.size, fun k hk _ => h.block k hk⟩

set_option maxRecDepth 100000 in
set_option maxHeartbeats 4000000 in
theorem each_in (n : Nat) (hn : 1 ≤ n) (lp B : Nat) (a : Addr) (c : Nat) (xs : List Int) (J : Nat → World → Prop) (W : World)
    (hB : W.heap[B]? = some (.cells #[.slice (some a) 1024 c] 27 (0, 0))) (hb : BAt W (some a) 1024 xs) (hx : ∀ x ∈ xs, 0 ≤ x ∧ x ≤ 255) (hc : 1024 ≤ c) (hc2 : c ≤ 9223372036854775807)
    (hJg : ∀ k A A', J k A → A.grownBy A' none → J k A') (hJd : ∀ k A, J k A → A.heap[B]? = W.heap[B]? ∧ A.heap[a.block]? = W.heap[a.block]?)
    (hY : ∀ k A, J k A → k < 32 → YieldAt Fence.wide (n - 1) Try.prog lp (eV xs k) A fun e W' => e = .returned (.bool true) ∧ J (k + 1) W') (h0 : J 0 W) :
    CallsIn Fence.wide n Try.prog 30 #[.func (.yield lp) #[] #[], .pointer (some ⟨B, 0, none⟩)] W fun e W' => (∃ v, e = .returned v) ∧ J 32 W' := by
  have mixed : Try.prog.follows Departure.mixedOrders = true := by kernel_rfl
  have HJ := Hid.mk hJg
  have HY := Hid.mk hY
  have HD : Hid (∀ k A, J k A → A.cell? ⟨B, 0, none⟩ = some (.slice (some a) 1024 c) ∧ BAt A (some a) 1024 xs) := Hid.mk (fun k A hA => by
    obtain ⟨h1, h2⟩ := hJd k A hA
    exact ⟨by rw [blk_cell (h1.trans hB)]; rfl, hb.kept (fun a' e _ => by cases e; exact h2)⟩)
  have HX := Hid.mk hx
  clear hJg hY hJd hB hb hx
  refine callsIn_of_wp Try.func30 rfl trivial ?_ rfl
  simp only [Try.ntmps30, List.size_toArray, List.length_cons, List.length_nil, Nat.reduceAdd, Nat.reduceSub, Array.replicate_succ, Array.replicate_zero, List.push_toArray, List.append_toArray, List.nil_append, List.cons_append]
  gi_wp2
  gi_loopw [3] (fun i wr => ∃ k : Nat, k ≤ 32 ∧ i = .int .i64 ((32 * k : Nat) : Int) ∧ J k wr) (fun i _ => 1024 - (intOf i).toNat)
  case atStart => exact ⟨0, by omega, rfl, h0⟩
  case round =>
    obtain ⟨k, hk, rfl, hJk⟩ := hrel
    obtain ⟨g3, gb⟩ := HD.out k wr hJk
    obtain ⟨p, hp⟩ : ∃ p, p = 32 * k := ⟨_, rfl⟩
    rw [← hp]
    by_cases hlt : k < 32
    · have hp2 : p + 32 ≤ 1024 := by omega
      have HRD : Hid (Calls Try.prog 16 #[.slice (some (a.add p)) 32 (c - p)] wr fun e w' => e = .returned (.tuple #[entV (rdI (blkAt xs k)) (rdS (blkAt xs k)), .int .i64 (rdE (blkAt xs k))]) ∧ Below wr.heap.size wr w') := Hid.mk (read_any wr (some (a.add p)) 32 (c - p) (blkAt xs k) (by
        have := gb.part p 32 (by omega)
        rw [hp] at this ⊢
        exact this) (blkAt_bound xs HX.out k) (by omega) (by omega))
      have HYK : Hid (∀ W4 : World, Below wr.heap.size wr W4 → YieldAt Fence.wide (n - 1) Try.prog lp (eV xs k) W4 fun e W' => e = .returned (.bool true) ∧ J (k + 1) W') := Hid.mk (fun W4 h4 => HY.out k W4 (HJ.out _ _ _ hJk (below_grown h4)) hlt)
      have HPK := Hid.mk hp
      have HLT := Hid.mk hlt
      unfold eV at HYK
      clear hp hlt hk hJk gb h0
      generalize rdI (blkAt xs k) = i at *
      generalize rdS (blkAt xs k) = s at *
      generalize rdE (blkAt xs k) = ee at *
      gi_wp2_with (first
        | (refine ⟨trivial, ?_⟩; gi_at_call 16; refine (callsIn_wide.2 HRD.out).mono ?_; rintro e W3 ⟨rfl, hB3⟩; obtain ⟨X, Y, d, hrX, hrY, hD, hBY, hd⟩ := var26 W3 i s; have HBY := Hid.mk (hB3.trans (hBY.mono hB3.size)); have HD2 := Hid.mk hD; have HRX := Hid.mk hrX; have HRY := Hid.mk hrY; obtain ⟨fn, tmps, assign, body, hy, hR⟩ := HYK.out Y HBY.out; have HR := Hid.mk hR; clear hB3 hrX hrY hD hBY hd hR)
        | (refine wpLIn_new rfl rfl _ X HRX.out ?_)
        | (refine wpLIn_store (.tmp 4) (.tmp 19) rfl rfl _ _ Y rfl rfl HRY.out ?_)
        | (refine wpLIn_load (.tmp 4) rfl rfl d i s rfl HD2.out ?_)
        | (refine HR.out.mono ?_; rintro e W4 ⟨rfl, hJ4⟩)
        | (refine ⟨trivial, ?_⟩; refine HR.out.mono ?_; rintro e W4 ⟨rfl, hJ4⟩))
      have hpk := HPK.out
      have hlt2 := HLT.out
      refine ⟨⟨k + 1, by omega, by congr 1; omega, hJ4⟩, ?_⟩
      simp [intOf]
      omega
    · obtain rfl : k = 32 := by omega
      have hp3 : p = 1024 := by omega
      subst hp3
      have HJk := Hid.mk hJk
      clear hJk h0 gb
      gi_wp2
      go_end0
      exact ⟨⟨_, rfl⟩, HJk.out⟩

/-- A range over an iterator that runs to its end, N rounds: what may be handed over in a round is told to the body ('H k A vs'), and the iterator's contract is asked for at whatever invariant extends I. -/
theorem wpIn_range_all {n : Nat} {P : Program} {g : Operand} {ps : Array Tmp} {assign body : Code} {Q : Exit → Act → World → Prop} {a : Act} {w : World}
    {gf : Nat} {lb : Array Value} (hg : a.eval g = .func (.func gf) #[] lb) (eg : ∀ args w, (callFunc gf args).run P w = .ok (.enter gf args) w)
    (N : Nat) (I : Nat → World → Prop) (hI : ∀ k A B row, I k A → A.grownBy B row → (∀ r, row = some r → w.heap.size ≤ r ∧ ∃ o : Obj, A.heap[r]? = some o ∧ o.isCells = false) → I k B) (h0 : I 0 w)
    (H : Nat → World → Array Value → Prop) (hH : ∀ k A vs, H k A vs → vs.size = ps.size)
    (hit : ∀ (l : Nat) (J : Nat → World → Prop) (W : World), (∀ k A, J k A → I k A) → (∀ k A B, J k A → A.grownBy B none → J k B) → w.grownBy W none →
      (∀ k A vs, J k A → k < N → H k A vs → YieldAt Fence.wide (n - 1 - 1) P l vs A fun e W' => e = .returned (.bool true) ∧ J (k + 1) W') → J 0 W →
      CallsIn Fence.wide (n - 1) P gf (#[.func (.yield l) #[] #[]] ++ lb) W fun e W' => (∃ v, e = .returned v) ∧ J N W')
    (hround : ∀ (l k : Nat) (A : World) (vs : Array Value), w.heap.size ≤ l → I k A → k < N → H k A vs →
      assign.wpIn (Fence.wide.inRound l) (n - 1 - 1) P (Exit.then (fun a₁ W₁ => KeepsOthers A W₁ ∧ ∀ (o : Obj) (W₂ : World), W₁.heap[l]? = some o → o.isCells = false → W₂.heap.size = W₁.heap.size → (∀ j, j ≠ l → W₂.heap[j]? = W₁.heap[j]?) →
          W₂.os = W₁.os → W₂.tape = W₁.tape → W₂.output = W₁.output →
          body.wpIn (Fence.wide.inRound l) (n - 1 - 1) P (fun e _ W₃ => e = .normal ∧ KeepsOthers W₂ W₃ ∧ I (k + 1) W₃) a₁ W₂) (fun _ _ _ => False))
        { tmps := (ps.zip vs).foldl (fun t (p, v) => t.setIfInBounds p v) a.tmps, defers := [] } A)
    (hdone : ∀ (D : Nat) (W : World), w.heap.size ≤ D → I N W → W.heap[D]? = some (.deferred (some [])) → Q .normal { a with defers := { target := .collected D, args := #[] } :: a.defers } W) :
    (Code.rangeFunc g ps assign body).wpIn Fence.wide n P Q a w := by
  refine wpIn_rangeFunc ?_
  intro fn hfn
  obtain ⟨rec, hrec⟩ : ∃ rec : Loop, rec = { state := .ready, pending := none, fn, tmps := a.tmps, params := ps, assign, body, defers := w.heap.size } := ⟨_, rfl⟩
  obtain ⟨W1, hW1⟩ : ∃ W1, W1 = (w.alloc (.deferred (some []))).alloc (.loop rec) := ⟨_, rfl⟩
  have b1 : W1.heap[w.heap.size + 1]? = some (.loop rec) := by
    have := blk_new (w.alloc (.deferred (some []))) (.loop rec)
    rw [hW1]
    rwa [World.size_alloc] at this
  have b0 : W1.heap[w.heap.size]? = some (.deferred (some [])) := by
    rw [hW1, Below.heap_alloc _ _ _ (by simp)]
    exact blk_new w _
  have hg1 : w.grownBy W1 none := by
    rw [hW1]
    exact ⟨rfl, rfl, rfl, by simp; omega, fun k hk _ => by rw [Below.heap_alloc _ _ _ (by simp; omega), Below.heap_alloc _ _ _ hk]⟩
  refine ⟨w.heap.size + 1, [{ target := .collected w.heap.size, args := #[] }], W1, { target := .fn (.func gf) lb, args := #[.func (.yield (w.heap.size + 1)) #[] #[]] }, W1, gf,
    #[.func (.yield (w.heap.size + 1)) #[] #[]] ++ lb, W1, ?_, ?_, fun _ _ => trivial, ?_, fun h => by simp [Fence.wide] at h, ?_⟩
  · rw [hW1, hrec]
    exact run_enterLoop_outer _ _ _ _ _
  · simp only [resolve, hg]
    simp [go_sem]
  · simp [invoke, go_sem, eg]
  · refine (hit (w.heap.size + 1) (fun k A => I k A ∧ A.heap[w.heap.size + 1]? = some (.loop rec) ∧ A.heap[w.heap.size]? = some (.deferred (some []))) W1 (fun k A h => h.1)
      (fun k A B h hg' => ⟨hI k A B none h.1 hg' (by simp), (hg'.block _ (lt_of_block h.2.1) (by simp)).trans h.2.1, (hg'.block _ (lt_of_block h.2.2) (by simp)).trans h.2.2⟩) hg1 ?_ ⟨hI 0 w W1 none h0 hg1 (by simp), b1, b0⟩).mono ?_
    · rintro k A vs ⟨hIk, hl, hd⟩ hk hHk
      have hlt : w.heap.size + 1 < A.heap.size := lt_of_block hl
      have hy := run_yield (P := P) (args := vs) hl (by rw [hrec]; exact hH k A vs hHk)
      rw [hrec] at hy
      refine ⟨fn, _, assign, body, hy, roundIn_of_wpIn hfn ?_⟩
      refine wpIn_mono (hround (w.heap.size + 1) k A vs (by omega) hIk hk hHk) ?_
      rintro e a₁ W₁ hp
      cases e with
      | normal =>
        obtain ⟨hk1, hb⟩ := hp
        have hl1 := hk1.same _ _ hl rfl
        have hd1 := hk1.same _ _ hd rfl
        refine ⟨_, run_beginRound hl1 (by rw [hrec]), ?_⟩
        have hlt1 : w.heap.size + 1 < W₁.heap.size := lt_of_block hl1
        refine wpIn_mono (hb _ (W₁.putObj (w.heap.size + 1) (.loop { rec with state := .busy })) hl1 rfl (by simp) (fun j hj => World.putObj_heap_other hj) rfl rfl rfl) ?_
        rintro e2 a₂ W₃ ⟨rfl, hk2, hI2⟩
        have hl2 : W₃.heap[w.heap.size + 1]? = some (.loop { rec with state := .busy }) := hk2.same _ _ (World.putObj_heap_same hlt1) rfl
        have hd2 : W₃.heap[w.heap.size]? = some (.deferred (some [])) := hk2.same _ _ ((World.putObj_heap_other (by omega)).trans hd1) rfl
        have hr := run_endRound (P := P) none hl2
        refine ⟨_, _, hr, rfl, ?_, ?_, ?_⟩
        · exact hI (k + 1) W₃ _ (some (w.heap.size + 1)) hI2 (grownBy_putObj' _ _ _) (fun r e => by cases e; exact ⟨by omega, _, hl2, rfl⟩)
        · rw [World.putObj_heap_same (lt_of_block hl2), hrec]
          rfl
        · exact (World.putObj_heap_other (by omega)).trans hd2
      | ret => exact hp.elim
      | exit id => exact hp.elim
      | goto t => exact hp.elim
      | panic ch => exact hp.elim
      | outgrown => exact hp.elim
    · rintro e W2 ⟨⟨v, rfl⟩, hI2, hl2, hd2⟩
      have hr := run_endLoop (P := P) hl2 (by rw [hrec]; simp)
      refine ⟨_, _, hr, ?_⟩
      rw [hrec]
      exact hdone w.heap.size _ (Nat.le_refl _) (hI N W2 _ (some (w.heap.size + 1)) hI2 (grownBy_putObj' _ _ _) (fun r e => by cases e; exact ⟨by omega, _, hl2, rfl⟩)) ((World.putObj_heap_other (by omega)).trans hd2)
end Go.Proofs.Ytpdekpdlmfnndaa
