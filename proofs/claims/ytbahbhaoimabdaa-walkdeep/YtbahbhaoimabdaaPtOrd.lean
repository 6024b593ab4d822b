/-
  A region that draws its order inside a round: its operations one by one.
-/
import Derived.Test.YtbahbhaoimabdaaPtSplit
namespace Go.Proofs.Ytbahbhaoimabdaa
open Go Go.Proofs Go.RowKit Go.Shelf

section
variable {F : Fence} {n : Nat} {P : Program} {w : World} {ops : Array Oper} {oi : Oper} {t : Array Value} {Q : Exit → Act → World → Prop} {K : Act → World → Prop}
theorem opIn_run (i d : Nat) (v : Value) (w' : World) (hi : ops[i]? = some oi) (hd : oi.dst = some d) (hw : Region.wanted oi (yielded ops t) = true) (hp : ∀ c, oi.op ≠ .defer c) (ha : oi.about P w (Act.eval { tmps := t, defers := [] }) = none)
    (hrun : (execOp (Act.eval { tmps := t, defers := [] }) oi).run P w = .ok (.value v) w') (h : K { tmps := t.setIfInBounds d v, defers := [] } w') : wpOpIn F n P ops Q i K { tmps := t, defers := [] } w := by
  refine wpOpIn_step hi (fun K' hK => ?_)
  rw [if_pos hw]
  unfold Oper.wpIn
  refine ⟨fun f hf => (by rw [ha] at hf; cases hf), ?_⟩
  rw [Oper.semAt_plain F _ _ hp, hrun, Oper.uponIn_value]
  refine hK _ _ ?_
  rw [show (Act.put { tmps := t, defers := [] } oi.dst v) = { tmps := t.setIfInBounds d v, defers := [] } from by simp [Act.put, hd]]
  exact h
theorem opIn_store (i : Nat) (w' : World) (hi : ops[i]? = some oi) (hd : oi.dst = none) (hw : Region.wanted oi (yielded ops t) = true) (hp : ∀ c, oi.op ≠ .defer c) (ha : oi.about P w (Act.eval { tmps := t, defers := [] }) = none)
    (hrun : (execOp (Act.eval { tmps := t, defers := [] }) oi).run P w = .ok .skip w') (h : K { tmps := t, defers := [] } w') : wpOpIn F n P ops Q i K { tmps := t, defers := [] } w := by
  refine wpOpIn_step hi (fun K' hK => ?_)
  rw [if_pos hw]
  unfold Oper.wpIn
  refine ⟨fun f hf => (by rw [ha] at hf; cases hf), ?_⟩
  rw [Oper.semAt_plain F _ _ hp, hrun, Oper.uponIn_skip]
  refine hK _ _ ?_
  rw [show (Act.put { tmps := t, defers := [] } oi.dst undef) = { tmps := t, defers := [] } from by simp [Act.put, hd]]
  exact h
theorem opIn_call (hn : 1 ≤ n) (i d : Nat) (hi : ops[i]? = some oi) (hd : oi.dst = some d) (hw : Region.wanted oi (yielded ops t) = true)
    (f : Nat) (xs : Array Operand) (tys : Array TypeId) (hop : oi.op = Op.call { callee := .value (.func f), args := xs, argTypes := tys }) (hF : F.fn f)
    (eg : ∀ vs w, (callFunc f vs).run P w = .ok (.enter f vs) w) (vs : Array Value) (hvs : xs.map (Act.eval { tmps := t, defers := [] }) = vs)
    {R : Ending → World → Prop} (hc : CallsIn F (n - 1) P f vs w R)
    (h : ∀ e w', R e w' → ∃ u, e = .returned u ∧ K { tmps := t.setIfInBounds d u, defers := [] } w') : wpOpIn F n P ops Q i K { tmps := t, defers := [] } w := by
  refine wpOpIn_step hi (fun K' hK => ?_)
  rw [if_pos hw]
  unfold Oper.wpIn
  have hsem : (execOp (Act.eval { tmps := t, defers := [] }) oi).run P w = .ok (.enter f vs) w := by
    simp [execOp, hop, resolve, invoke, go_sem, hvs, eg]
  refine ⟨fun g hg => ?_, ?_⟩
  · have : g = f := by
      simp [Oper.about, hop, resolve, go_sem, Target.leads] at hg
      exact hg.symm
    rw [this]; exact hF
  · rw [Oper.semAt_plain F _ _ (by rw [hop]; intro c hc; cases hc), hsem, Oper.uponIn_enter]
    refine ⟨fun _ => hn, hc.mono ?_⟩
    intro e w' hR
    obtain ⟨u, rfl, hk⟩ := h e w' hR
    refine hK _ _ ?_
    rw [show (Act.put { tmps := t, defers := [] } oi.dst u) = { tmps := t.setIfInBounds d u, defers := [] } from by simp [Act.put, hd]]
    exact hk
end
theorem exec_load1 {ev : Operand → Value} {oi : Oper} {x : Operand} {a : Addr} {v : Value} {W : World} (ho : oi.op = .load 31 x) (hx : ev x = .pointer (some a)) (hc : W.cell? a = some v) : (execOp ev oi).run Try.prog W = .ok (.value v) W := by
  unfold execOp
  rw [ho]
  simp [go_sem, hx, hc]
theorem exec_move1 {P : Program} {ev : Operand → Value} {oi : Oper} {x : Operand} {v : Value} {W : World} (ho : oi.op = .move x) (hx : ev x = v) : (execOp ev oi).run P W = .ok (.value v) W := by
  unfold execOp
  rw [ho]
  simp [go_sem, hx]
theorem exec_append1 {P : Program} {ev : Operand → Value} {oi : Oper} {s x : Operand} {t u : TypeId} {v vx v' : Value} {w w' : World} (ho : oi.op = .call { callee := .builtin .append, args := #[s, x], argTypes := #[t, u] }) (hs : ev s = v) (hx : ev x = vx) (hrun : (Builtin.append_ #[t, u] oi.type #[v, vx]).run P w = .ok v' w') : (execOp ev oi).run P w = .ok (.value v') w' := by
  unfold execOp
  simp only [ho, resolve, invoke, builtin, Sem.run_bind, Sem.run_pure, Result.andThen_ok, List.map_toArray, List.map_cons, List.map_nil, hs, hx, hrun]
theorem exec_store1 {ev : Operand → Value} {oi : Oper} {p x : Operand} {a : Addr} {ao : Option Addr} {l c : Nat} {v : Value} {W : World} (ho : oi.op = .store 31 p x) (hp : ev p = .pointer (some a)) (hx : ev x = .slice ao l c) (hc : W.cell? a = some v) (hf : W.frozen? a = false) : (execOp ev oi).run Try.prog W = .ok .skip (W.setCell a (.slice ao l c)) := by
  refine exec_store ho hp hx ?_
  simp [go_sem, hc, hf]
theorem keeps_of_only {S : Nat → Prop} {W W' : World} (h : Only S W W') (hS : ∀ j, S j → IsC W j) : KeepsOthers W W' := by
  refine ⟨h.size, fun k o hk ho => ?_⟩
  rw [h.block k (Array.getElem?_eq_some_iff.1 hk).1 (fun hs => ?_), hk]
  obtain ⟨c, t, fr, hc⟩ := hS k hs
  rw [hk] at hc
  cases hc
  cases ho
/-- A round's end: one part more. -/
theorem PI.step {r : List UInt8} {w : World} {pre : List Nat} {x : Nat} {W W3 W4 : World} {v v' : Value} (hI : PI r w pre W) (hv : W.heap[w.heap.size + 2]? = some (.cells #[v] 31 (0, 0))) (hown : W.ownsRow (w.heap.size + 4) 9 1 v pre.length (Sy (pre.map (pcA r)))) (h3 : Below W.heap.size W W3) (ho : Only (fun k => v.ownBlock = some k) W3 W4)
    (hown4 : W4.ownsRow (w.heap.size + 4) 9 1 v' (pre.length + 1) (Sy (pre.map (pcA r) ++ [pcA r x]))) (hg : mayB (pcA r x) = true) :
    KeepsOthers W (W4.setCell ⟨w.heap.size + 2, 0, none⟩ v') ∧ PI r w (pre ++ [x]) (W4.setCell ⟨w.heap.size + 2, 0, none⟩ v') := by
  have hlo : ∀ j, v.ownBlock = some j → w.heap.size + 4 ≤ j := fun j e => (hown.lt j e).1
  have hO : Only (fun j => v.ownBlock = some j ∨ j = w.heap.size + 2) W (W4.setCell ⟨w.heap.size + 2, 0, none⟩ v') :=
    ((Only.of_new _ h3).trans ho (fun i e => .inl (.inl e))).setCell (.inl (.inr rfl)) _
  have hsz := hI.size
  have hW4 : ∀ j, j < w.heap.size + 4 → W4.heap[j]? = W.heap[j]? := fun j hj => by
    rw [ho.block j (by have := h3.size; omega) (fun e => by have := hlo j e; omega), h3.block j (by omega)]
  refine ⟨keeps_of_only hO (fun j e => ?_), ?_, ?_, ?_, ⟨v', ?_, ?_⟩, ?_, ?_⟩
  · rcases e with e | rfl
    · exact owns_isC hown _ e
    · exact ⟨_, _, _, hv⟩
  · intro q hq
    rcases List.mem_append.1 hq with hq | hq
    · exact hI.all q hq
    · rw [List.mem_singleton.1 hq]; exact hg
  · rw [Below.heap_setCell _ _ _ _ (by simp), hW4 _ (by omega)]; exact hI.r0
  · rw [Below.heap_setCell _ _ _ _ (by simp), hW4 _ (by omega)]; exact hI.r1
  · rw [blk_set ((hW4 _ (by omega)).trans hv)]
    simp
  · rw [List.length_append, List.map_append]
    refine owns_at hown4 (fun j e => ?_)
    have := (hown4.lt j e).1
    exact Below.heap_setCell _ _ _ _ (by show j ≠ w.heap.size + 2; omega)
  · exact hI.below.trans (hO.below (by omega) (fun j e => by rcases e with e | rfl; have := hlo j e; omega; omega))
  · exact Nat.le_trans hI.size hO.size
theorem about_call {P : Program} {w : World} {ev : Operand → Value} {oi : Oper} {xs : Array Operand} {ts : Array TypeId} (ho : oi.op = .call { callee := .builtin .append, args := xs, argTypes := ts }) : oi.about P w ev = none := by
  simp [Oper.about, ho, resolve, Target.leads, Sem.run_pure]
end Go.Proofs.Ytbahbhaoimabdaa
