/-
  A region that draws its order, ahead of a range over a function or behind it.
-/
import Derived.Test.YtehaoeclnmelhabGreatMem
import Derived.Test.YtehaoeclnmelhabGreatLayPz
namespace Go.Proofs.YtehaoeclnmelhabGreat
open Go Go.Proofs Go.RowKit Go.Shelf
section
variable {P : Program} {n : Nat} {ops : Array Oper} {Q : Exit → Act → World → Prop}
theorem w_rowsIn_wide {row : String} {args : Array Value} {w : World} {R : Value → World → Prop} (h : Rows P row args w R) : RowsIn Fence.wide n P row args w R :=
  fun c cs _ => let ⟨v, w', r, s⟩ := h c cs; ⟨v, w', r, stepsIn_wide.2 s⟩
theorem w_callsIn_round {f : FuncId} {args : Array Value} {w : World} {R : Ending → World → Prop} (h : Calls P f args w R) : CallsIn Fence.wide n P f args w R := (callsIn_wide (n := n)).2 h
/-- An operation that is no defer statement. -/
theorem w_operIn_of_oper {o : Oper} {a : Act} {w : World} {K K' : Act → World → Prop} (hp : ∀ c, o.op ≠ .defer c) (hK : ∀ a w, K a w → K' a w) (h : o.wp P a w K (Norm (Q .normal))) : o.wpIn Fence.wide n P a w K' Q := by
  refine ⟨fun _ _ => trivial, ?_⟩
  rw [Oper.semAt_plain Fence.wide _ _ hp]
  unfold Oper.wp at h
  generalize (execOp a.eval o).run P w = r at *
  cases r with
  | ok x w' =>
    cases x <;> simp only [Oper.upon, Oper.uponIn] at h ⊢
    case enter f args =>
      refine ⟨fun hd => by simp [Fence.wide] at hd, w_callsIn_round (Calls.mono h fun e w'' he => ?_)⟩
      cases e with
      | returned v => exact hK _ _ he
      | panicked c => exact he.elim
      | outgrown => exact absurd he (norm_in _)
    case row row args => exact ⟨fun hd => by simp [Fence.wide] at hd, w_rowsIn_wide (Rows.mono h fun v w'' he => hK _ _ he)⟩
    all_goals first | exact hK _ _ h | exact h.elim
  | halt x w' => cases x <;> simp only [Oper.upon, Oper.uponIn] at h ⊢ <;> first | exact h.elim | exact h
theorem w_opsIn_of_ops (hp : plainB ops = true) : ∀ (js : List Nat) (a : Act) (w : World), wpOps P ops (Norm (Q .normal)) js a w → wpOpsIn Fence.wide n P ops Q js a w
  | [], _, _, h => h
  | i :: rest, a, w, h => by
    unfold wpOps at h
    unfold wpOpsIn
    cases ho : ops[i]? with
    | none => rw [ho] at h; exact w_opsIn_of_ops hp rest a w h
    | some o =>
      rw [ho] at h
      dsimp only at h ⊢
      split
      · rename_i hw
        rw [if_pos hw] at h
        rcases h with h | h
        · exact w_operIn_of_oper (plainB_spec hp i o ho) (fun a' w' h' => w_opsIn_of_ops hp rest a' w' h') h
        · exact absurd h.2 (norm_in _)
      · rename_i hw
        rw [if_neg hw] at h
        exact ⟨fun _ _ => trivial, w_opsIn_of_ops hp rest _ w h⟩
/-- A region that draws its order, inside a round: as outside of it, by what S holds. -/
theorem wide_region_held {id : Nat} {a : Act} {w : World} (S : World → Prop) (hm : P.follows .mixedOrders = true) (hp : plainB ops = true) (hS : S w.drew)
    (h : S w.drew → wpAnyH P .any ops (Norm (Q .normal)) S ops.size (Array.replicate ops.size false) a w.drew) : (Code.region id ops true).wpIn Fence.wide n P Q a w := by
  refine wpIn_region_draw fun t => ?_
  simp only [Region.schedule, hm, Bool.true_or, if_true]
  have h1 := wpAny_sound (P := P) (md := .any) (ops := ops) ops.size t _ a _ (wpAny_of_held _ _ _ _ (h hS))
  exact w_opsIn_of_ops (n := n) hp _ _ _ h1
end
end Go.Proofs.YtehaoeclnmelhabGreat
namespace Go.Proofs.YtehaoeclnmelhabGreat
open Go Go.Proofs Go.RowKit Go.Shelf
section
variable {P : Program} {ops : Array Oper} {Q : Exit → Act → World → Prop} {md : Region.Mode} {S : World → Prop} {fuel : Nat} {listed : Array Bool} {t : Array Value} {w : World} {ds : List Deferred}
set_option maxRecDepth 100000 in
theorem takeHD (i d : Nat) (v : Value) {oi : Oper} (hi : ops[i]? = some oi) (hd : oi.dst = some d) (hs : Region.noSelect ops = true) (hf : Region.free md ops listed i = true) (hr : (Region.ready md ops listed).contains i = true)
    (hQ : ∀ c a w, Q (.panic c) (a.put oi.dst v) w → Q (.panic c) a w) (hw : Region.wanted oi (yielded ops t) = true) (hrun : ∀ w, S w → (execOp (Act.eval { tmps := t, defers := ds }) oi).run P w = .ok (.value v) w) (hS : S w)
    (h : wpAnyH P md ops Q S fuel (listed.setIfInBounds i true) { tmps := t.setIfInBounds d v, defers := ds } w) : wpAnyH P md ops Q S (fuel + 1) listed { tmps := t, defers := ds } w := by
  refine wpAnyH_take hi hs hf hr hQ (.inl ⟨hw, hrun⟩) hS ?_
  rw [show (Act.put { tmps := t, defers := ds } oi.dst v) = { tmps := t.setIfInBounds d v, defers := ds } from by simp [Act.put, hd]]
  exact h
set_option maxRecDepth 100000 in
theorem stepHD (i d : Nat) (v : Value) {oi : Oper} (hi : ops[i]? = some oi) (hd : oi.dst = some d) (hr : Region.ready md ops listed = [i]) (hw : Region.wanted oi (yielded ops t) = true)
    (hrun : (execOp (Act.eval { tmps := t, defers := ds }) oi).run P w = .ok (.value v) w) (hS : S w)
    (h : wpAnyH P md ops Q S fuel (listed.setIfInBounds i true) { tmps := t.setIfInBounds d v, defers := ds } w) : wpAnyH P md ops Q S (fuel + 1) listed { tmps := t, defers := ds } w := by
  refine wpAnyH_all hr (by simp) (fun j hj => ?_)
  obtain rfl : j = i := by simpa using hj
  unfold wpOp
  rw [hi]
  dsimp only
  rw [if_pos hw]
  left
  unfold Oper.wp
  rw [hrun, Oper.upon_value, show (Act.put { tmps := t, defers := ds } oi.dst v) = { tmps := t.setIfInBounds d v, defers := ds } from by simp [Act.put, hd]]
  exact ⟨hS, h⟩
set_option maxRecDepth 100000 in
theorem stepH_callD (i d : Nat) {oi : Oper} (hi : ops[i]? = some oi) (hd : oi.dst = some d) (hr : Region.ready md ops listed = [i]) (hw : Region.wanted oi (yielded ops t) = true)
    (f : Nat) (xs : Array Operand) (tys : Array TypeId) (hop : oi.op = Op.call { callee := .value (.func f), args := xs, argTypes := tys })
    (eg : ∀ vs w, (callFunc f vs).run P w = .ok (.enter f vs) w) (vs : Array Value) (hvs : xs.map (Act.eval { tmps := t, defers := ds }) = vs)
    {R : Ending → World → Prop} (hc : Calls P f vs w R)
    (h : ∀ e w', R e w' → ∃ u, e = .returned u ∧ S w' ∧ wpAnyH P md ops Q S fuel (listed.setIfInBounds i true) { tmps := t.setIfInBounds d u, defers := ds } w') : wpAnyH P md ops Q S (fuel + 1) listed { tmps := t, defers := ds } w := by
  refine wpAnyH_all hr (by simp) (fun j hj => ?_)
  obtain rfl : j = i := by simpa using hj
  unfold wpOp
  rw [hi]
  dsimp only
  rw [if_pos hw]
  left
  have hrun : (execOp (Act.eval { tmps := t, defers := ds }) oi).run P w = .ok (.enter f vs) w := by
    subst hvs
    simp [execOp, hop, resolve, invoke, Act.eval, go_sem, eg]
  unfold Oper.wp
  rw [hrun, Oper.upon_enter]
  refine hc.mono ?_
  intro e w' hr
  obtain ⟨u, rfl, h1, h2⟩ := h e w' hr
  show S w' ∧ wpAnyH P md ops Q S fuel (listed.setIfInBounds j true) (Act.put { tmps := t, defers := ds } oi.dst u) w'
  rw [show (Act.put { tmps := t, defers := ds } oi.dst u) = { tmps := t.setIfInBounds d u, defers := ds } from by simp [Act.put, hd]]
  exact ⟨h1, h2⟩
set_option maxRecDepth 100000 in
theorem stepH_oneD (i : Nat) (hr : Region.ready md ops listed = [i])
    (h1 : wpOp P ops Q i (fun a' w' => S w' ∧ wpAnyH P md ops Q S fuel (listed.setIfInBounds i true) a' w') { tmps := t, defers := ds } w) : wpAnyH P md ops Q S (fuel + 1) listed { tmps := t, defers := ds } w := by
  refine wpAnyH_all hr (by simp) (fun k hk => ?_)
  obtain rfl : k = i := by simpa using hk
  exact h1
set_option maxRecDepth 100000 in
theorem opH_dropD (i : Nat) (w' : World) (v : Value) {oi : Oper} (hi : ops[i]? = some oi) (hd : oi.dst = none) (hw : Region.wanted oi (yielded ops t) = true)
    (hrun : (execOp (Act.eval { tmps := t, defers := ds }) oi).run P w = .ok (.value v) w') (hS : S w')
    (h : wpAnyH P md ops Q S fuel (listed.setIfInBounds i true) { tmps := t, defers := ds } w') : wpOp P ops Q i (fun a' w' => S w' ∧ wpAnyH P md ops Q S fuel (listed.setIfInBounds i true) a' w') { tmps := t, defers := ds } w := by
  unfold wpOp
  rw [hi]
  dsimp only
  rw [if_pos hw]
  refine .inl ?_
  unfold Oper.wp
  rw [hrun, Oper.upon_value]
  rw [show (Act.put { tmps := t, defers := ds } oi.dst v) = { tmps := t, defers := ds } from by simp [Act.put, hd]]
  exact ⟨hS, h⟩
end
end Go.Proofs.YtehaoeclnmelhabGreat
