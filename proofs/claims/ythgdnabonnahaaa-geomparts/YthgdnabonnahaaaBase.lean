/-
  Laws on worlds and on regions that draw their order, for every program.
-/
import Derived.WalkKit
import Derived.OneCell
import Derived.Lib.SliceRun
import Derived.Deep.RegionLaw
import Derived.Shelf.Abstract
import Derived.OwnWalk
import Derived.Deep.RegionHeld3
namespace Go.RowKit
theorem Hid.mk {p : Prop} (h : p) : Hid p := h
end Go.RowKit
namespace Go.Proofs.Ythgdnabonnahaaa
open Go Go.Proofs Go.RowKit Go.Shelf

/-- Only blocks of S (of those that lay) may have turned. -/
structure Only (S : Nat → Prop) (w w' : World) : Prop where
  os : w'.os = w.os
  tape : w'.tape = w.tape
  output : w'.output = w.output
  size : w.heap.size ≤ w'.heap.size
  block : ∀ k, k < w.heap.size → ¬ S k → w'.heap[k]? = w.heap[k]?

theorem Only.refl (S : Nat → Prop) (w : World) : Only S w w := ⟨rfl, rfl, rfl, Nat.le_refl _, fun _ _ _ => rfl⟩

theorem Only.trans {S T : Nat → Prop} {a b c : World} (h : Only S a b) (k : Only T b c) (hT : ∀ i, T i → S i ∨ a.heap.size ≤ i) : Only S a c :=
  ⟨k.os.trans h.os, k.tape.trans h.tape, k.output.trans h.output, Nat.le_trans h.size k.size, fun i hi hs =>
    (k.block i (Nat.lt_of_lt_of_le hi h.size) (fun t => (hT i t).elim hs (fun x => by omega))).trans (h.block i hi hs)⟩

theorem Only.mono {S T : Nat → Prop} {a b : World} (h : Only S a b) (hT : ∀ i, i < a.heap.size → S i → T i) : Only T a b :=
  ⟨h.os, h.tape, h.output, h.size, fun i hi hs => h.block i hi (fun s => hs (hT i hi s))⟩

theorem Only.of_below {B : Nat} {a b : World} (S : Nat → Prop) (h : Below B a b) (hB : ∀ k, B ≤ k → k < a.heap.size → S k) : Only S a b :=
  ⟨h.os, h.tape, h.output, h.size, fun k hk hs => h.block k (by
    rcases Nat.lt_or_ge k B with h' | h'
    · exact h'
    · exact absurd (hB k h' hk) hs)⟩

theorem Only.of_new {a b : World} (S : Nat → Prop) (h : Below a.heap.size a b) : Only S a b := Only.of_below S h (fun _ h1 h2 => by omega)

theorem Only.below {S : Nat → Prop} {B : Nat} {a b : World} (h : Only S a b) (hB : B ≤ a.heap.size) (hS : ∀ k, S k → B ≤ k) : Below B a b :=
  ⟨h.os, h.tape, h.output, h.size, fun k hk => h.block k (by omega) (fun s => by have := hS k s; omega)⟩

theorem Only.drew {S : Nat → Prop} {a b : World} (h : Only S a b) : Only S a b.drew := ⟨h.os, h.tape, h.output, h.size, h.block⟩

theorem Only.setCell {S : Nat → Prop} {a w : World} (h : Only S a w) {p : Addr} (hp : S p.block ∨ a.heap.size ≤ p.block) (u : Value) : Only S a (w.setCell p u) :=
  h.trans (T := fun k => k = p.block) ⟨rfl, rfl, rfl, by simp [World.setCell], fun k _ hs => Below.heap_setCell _ _ _ _ hs⟩ (fun i e => by subst e; exact hp)

theorem Only.alloc {S : Nat → Prop} {a w : World} (h : Only S a w) (o : Obj) : Only S a (w.alloc o) :=
  h.trans (T := fun _ => False) ⟨rfl, rfl, rfl, by simp, fun k hk _ => Below.heap_alloc _ _ _ hk⟩ (fun _ e => e.elim)

theorem Only.grown {S : Nat → Prop} {a w w' : World} {row : Option Nat} (h : Only S a w) (hg : w.grownBy w' row) (hr : ∀ k, row = some k → S k ∨ a.heap.size ≤ k) : Only S a w' :=
  h.trans (T := fun k => row = some k) ⟨hg.os, hg.tape, hg.output, hg.size, fun k hk hs => hg.block k hk (fun e => hs e.symm)⟩ hr

theorem Only.setRow {S : Nat → Prop} {a w : World} (h : Only S a w) {g : Nat} (hg : S g ∨ a.heap.size ≤ g) (cs : Array Value) : Only S a (w.setRow g cs) :=
  h.trans (T := fun k => k = g) ⟨rfl, rfl, rfl, by simp [World.setRow], fun k _ hs => setRow_other w g k cs hs⟩ (fun i e => by subst e; exact hg)

/-! blocks of cells -/

theorem blk_cell {w : World} {b : Nat} {c : Array Value} {t : TypeId} {fr : Nat × Nat} (h : w.heap[b]? = some (.cells c t fr)) (i : Nat) : w.cell? ⟨b, i, none⟩ = c[i]? := by simp [World.cell?, h]
theorem blk_free {w : World} {b : Nat} {c : Array Value} {t : TypeId} (h : w.heap[b]? = some (.cells c t (0, 0))) (i : Nat) : w.frozen? ⟨b, i, none⟩ = false := by simp [World.frozen?, h]
theorem blk_set {w : World} {b i : Nat} {c : Array Value} {u : Value} {t : TypeId} {fr : Nat × Nat} (h : w.heap[b]? = some (.cells c t fr)) : (w.setCell ⟨b, i, none⟩ u).heap[b]? = some (.cells (c.setIfInBounds i u) t fr) := by
  have hlt := lt_of_block h
  have h' : w.heap[b] = .cells c t fr := by simpa [Array.getElem?_eq_getElem hlt] using h
  show (w.heap.modify b _)[b]? = _
  rw [Array.getElem?_eq_getElem (by simpa using hlt), Array.getElem_modify_self, h']
  rfl
theorem blk_new (w : World) (o : Obj) : (w.alloc o).heap[w.heap.size]? = some o := by
  show (w.heap.push o)[w.heap.size]? = _
  simp

theorem owns_full {w : World} {base g n : Nat} {e : TypeId} {xs : List Value} (h : w.ownsRow base e 1 (.slice (some ⟨g, 0, none⟩) n n) n xs) : base ≤ g ∧ w.heap[g]? = some (.cells xs.toArray e (0, 0)) := by
  obtain ⟨h1, h2⟩ := h
  rcases h2 with h2 | ⟨g', cap, cur, hv, hg, hh, hnc, hm, hsz, ht⟩
  · simp at h2
  · simp at hv
    obtain ⟨rfl, rfl⟩ := hv
    refine ⟨hg, ?_⟩
    rw [hh]
    have e : cur.toList = xs := by
      rw [← ht, List.take_of_length_le (by simp; omega)]
    rw [← e]

section
variable {P : Program} {ops : Array Oper} {Q : Exit → Act → World → Prop} {md : Region.Mode} {S : World → Prop} {fuel : Nat} {listed : Array Bool} {t : Array Value} {w : World}

/-- Takes operation i first: it yields v wherever S holds; the frame behind it in one word. -/
theorem takeH (i d : Nat) (v : Value) {oi : Oper} (hi : ops[i]? = some oi) (hd : oi.dst = some d) (hs : Region.noSelect ops = true) (hf : Region.free md ops listed i = true) (hr : (Region.ready md ops listed).contains i = true)
    (hQ : ∀ c a w, Q (.panic c) (a.put oi.dst v) w → Q (.panic c) a w) (hw : Region.wanted oi (yielded ops t) = true) (hrun : ∀ w, S w → (execOp (Act.eval { tmps := t, defers := [] }) oi).run P w = .ok (.value v) w) (hS : S w)
    (h : wpAnyH P md ops Q S fuel (listed.setIfInBounds i true) { tmps := t.setIfInBounds d v, defers := [] } w) : wpAnyH P md ops Q S (fuel + 1) listed { tmps := t, defers := [] } w := by
  refine wpAnyH_take hi hs hf hr hQ (.inl ⟨hw, hrun⟩) hS ?_
  rw [show (Act.put { tmps := t, defers := [] } oi.dst v) = { tmps := t.setIfInBounds d v, defers := [] } from by simp [Act.put, hd]]
  exact h

/-- The same for one that its guard passes over. -/
theorem skipH (i d : Nat) {oi : Oper} (hi : ops[i]? = some oi) (hd : oi.dst = some d) (hs : Region.noSelect ops = true) (hf : Region.free md ops listed i = true) (hr : (Region.ready md ops listed).contains i = true)
    (hQ : ∀ c a w, Q (.panic c) (a.put oi.dst undef) w → Q (.panic c) a w) (hw : Region.wanted oi (yielded ops t) = false) (hS : S w)
    (h : wpAnyH P md ops Q S fuel (listed.setIfInBounds i true) { tmps := t.setIfInBounds d undef, defers := [] } w) : wpAnyH P md ops Q S (fuel + 1) listed { tmps := t, defers := [] } w := by
  refine wpAnyH_take hi hs hf hr hQ (.inr ⟨hw, rfl⟩) hS ?_
  rw [show (Act.put { tmps := t, defers := [] } oi.dst undef) = { tmps := t.setIfInBounds d undef, defers := [] } from by simp [Act.put, hd]]
  exact h

/-- The one operation that may come up, which yields v in this world. -/
theorem stepH (i d : Nat) (v : Value) {oi : Oper} (hi : ops[i]? = some oi) (hd : oi.dst = some d) (hr : Region.ready md ops listed = [i]) (hw : Region.wanted oi (yielded ops t) = true)
    (hrun : (execOp (Act.eval { tmps := t, defers := [] }) oi).run P w = .ok (.value v) w) (hS : S w)
    (h : wpAnyH P md ops Q S fuel (listed.setIfInBounds i true) { tmps := t.setIfInBounds d v, defers := [] } w) : wpAnyH P md ops Q S (fuel + 1) listed { tmps := t, defers := [] } w := by
  refine wpAnyH_all hr (by simp) (fun j hj => ?_)
  obtain rfl : j = i := by simpa using hj
  unfold wpOp
  rw [hi]
  dsimp only
  rw [if_pos hw]
  left
  unfold Oper.wp
  rw [hrun, Oper.upon_value, show (Act.put { tmps := t, defers := [] } oi.dst v) = { tmps := t.setIfInBounds d v, defers := [] } from by simp [Act.put, hd]]
  exact ⟨hS, h⟩

/-- The one operation that may come up, a call of a Go function, by its contract. -/
theorem stepH_call (i d : Nat) {oi : Oper} (hi : ops[i]? = some oi) (hd : oi.dst = some d) (hr : Region.ready md ops listed = [i]) (hw : Region.wanted oi (yielded ops t) = true)
    (f : Nat) (xs : Array Operand) (tys : Array TypeId) (hop : oi.op = Op.call { callee := .value (.func f), args := xs, argTypes := tys })
    (eg : ∀ vs w, (callFunc f vs).run P w = .ok (.enter f vs) w) (vs : Array Value) (hvs : xs.map (Act.eval { tmps := t, defers := [] }) = vs)
    {R : Ending → World → Prop} (hc : Calls P f vs w R)
    (h : ∀ e w', R e w' → ∃ u, e = .returned u ∧ S w' ∧ wpAnyH P md ops Q S fuel (listed.setIfInBounds i true) { tmps := t.setIfInBounds d u, defers := [] } w') : wpAnyH P md ops Q S (fuel + 1) listed { tmps := t, defers := [] } w := by
  refine wpAnyH_all hr (by simp) (fun j hj => ?_)
  obtain rfl : j = i := by simpa using hj
  unfold wpOp
  rw [hi]
  dsimp only
  rw [if_pos hw]
  left
  have hrun : (execOp (Act.eval { tmps := t, defers := [] }) oi).run P w = .ok (.enter f vs) w := by
    subst hvs
    simp [execOp, hop, resolve, invoke, Act.eval, go_sem, eg]
  unfold Oper.wp
  rw [hrun, Oper.upon_enter]
  refine hc.mono ?_
  intro e w' hr
  obtain ⟨u, rfl, h1, h2⟩ := h e w' hr
  show S w' ∧ wpAnyH P md ops Q S fuel (listed.setIfInBounds j true) (Act.put { tmps := t, defers := [] } oi.dst u) w'
  rw [show (Act.put { tmps := t, defers := [] } oi.dst u) = { tmps := t.setIfInBounds d u, defers := [] } from by simp [Act.put, hd]]
  exact ⟨h1, h2⟩
end
end Go.Proofs.Ythgdnabonnahaaa
