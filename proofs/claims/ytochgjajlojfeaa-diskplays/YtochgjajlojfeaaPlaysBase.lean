/-
  DiskPlays: laws on the orders of a region, bytes that may be written, and what the write on the other disk leaves.
-/
import Derived.Test.YtochgjajlojfeaaTri
import Derived.Test.YtochgjajlojfeaaActs
import Derived.Test.YtochgjajlojfeaaOrders
import Derived.Deep.Cut
import Derived.Deep.CutRange
import Derived.Deep.CutBlock
namespace Go.Proofs.Ytochgjajlojfeaa
open Go Go.Proofs Go.RowKit Go.Shelf

theorem xor_bound (v : Int) : 0 ≤ bits BinOp.xor IntKind.u8 v 255 ∧ bits BinOp.xor IntKind.u8 v 255 ≤ 255 := bounds_u8 (wf_bits _ _ _ _)

/-- Block g holds n bytes at least, and may be written. -/
def Bytex (W : World) (g n : Nat) : Prop := ∃ cur, W.heap[g]? = some (.cells cur 5 (0, 0)) ∧ ∀ i, i < n → ∃ v : Int, cur[i]? = some (.int .u8 v)

theorem Bytex.at {W : World} {g n : Nat} (h : Bytex W g n) (i : Nat) (hi : i < n) : ∃ v : Int, W.cell? ⟨g, i, none⟩ = some (.int .u8 v) ∧ W.frozen? ⟨g, i, none⟩ = false := by
  obtain ⟨cur, hb, hc⟩ := h
  obtain ⟨v, hv⟩ := hc i hi
  exact ⟨v, by rw [blk_cell hb, hv], blk_free hb i⟩

theorem Bytex.set {W : World} {g n : Nat} (h : Bytex W g n) (i : Nat) (v : Int) : Bytex (W.setCell ⟨g, i, none⟩ (.int .u8 v)) g n := by
  obtain ⟨cur, hb, hc⟩ := h
  refine ⟨_, blk_set hb, fun j hj => ?_⟩
  by_cases e : i = j
  · subst e
    obtain ⟨u, hu⟩ := hc i hj
    have hlt : i < cur.size := (Array.getElem?_eq_some_iff.1 hu).1
    exact ⟨v, by simp [hlt]⟩
  · obtain ⟨u, hu⟩ := hc j hj
    exact ⟨u, by rw [Array.getElem?_setIfInBounds_ne e]; exact hu⟩

theorem owns_bytex {w : World} {base : Nat} {v : Value} {n : Nat} {xs : List Int} (h : w.ownsRow base 5 1 v n (By xs)) (g : Nat) (hg : v.ownBlock = some g) : Bytex w g n := by
  obtain ⟨h1, h2⟩ := h
  rcases h2 with h2 | ⟨g', cap, cur, rfl, _, hh, hnc, hm, hsz, ht⟩
  · rw [h2.1] at hg
    simp [Value.ownBlock] at hg
  · simp [Value.ownBlock] at hg
    subst hg
    rw [By_length] at h1
    refine ⟨cur, hh, fun i hi => ?_⟩
    have hi2 : i < xs.length := by omega
    refine ⟨xs[i], ?_⟩
    rw [← Array.getElem?_toList]
    have : cur.toList[i]? = (By xs)[i]? := by rw [← ht, List.getElem?_take, if_pos (by omega)]
    rw [this, By_get xs i hi2]
    simp [List.getD, List.getElem?_eq_getElem hi2]

theorem owns_block {w : World} {base : Nat} {a : Addr} {n c : Nat} {xs : List Value} (h : w.ownsRow base 5 1 (.slice (some a) n c) n xs) : (Value.slice (some a) n c).ownBlock = some a.block := by
  rcases h.2 with ⟨e, _⟩ | ⟨g, cap, cur, e, _⟩
  · cases e
  · cases e; rfl

section
variable {P : Program} {ops : Array Oper} {Q : Exit → Act → World → Prop} {md : Region.Mode} {S : World → Prop} {fuel : Nat} {listed : Array Bool} {t : Array Value} {w : World}

/-- The one operation that may come up, which yields v and leaves another world. -/
theorem stepH_run (i d : Nat) (v : Value) (w' : World) {oi : Oper} (hi : ops[i]? = some oi) (hd : oi.dst = some d) (hr : Region.ready md ops listed = [i]) (hw : Region.wanted oi (yielded ops t) = true)
    (hrun : (execOp (Act.eval { tmps := t, defers := [] }) oi).run P w = .ok (.value v) w') (hS : S w')
    (h : wpAnyH P md ops Q S fuel (listed.setIfInBounds i true) { tmps := t.setIfInBounds d v, defers := [] } w') : wpAnyH P md ops Q S (fuel + 1) listed { tmps := t, defers := [] } w := by
  refine wpAnyH_all hr (by simp) (fun j hj => ?_)
  obtain rfl : j = i := by simpa using hj
  unfold wpOp
  rw [hi]
  dsimp only
  rw [if_pos hw]
  left
  unfold Oper.wp
  rw [hrun, Oper.upon_value, show (Act.put { tmps := t, defers := [] } oi.dst v) = { tmps := t.setIfInBounds d v, defers := [] } from by simp [Act.put, hd]]
  exact ⟨hS, h⟩

/-- The one operation that may come up, a call with three arguments, by its contract. -/
theorem stepH_call3 (i d : Nat) {oi : Oper} (hi : ops[i]? = some oi) (hd : oi.dst = some d) (hr : Region.ready md ops listed = [i]) (hw : Region.wanted oi (yielded ops t) = true)
    (f : Nat) (x y z : Operand) (tys : Array TypeId) (hop : oi.op = Op.call { callee := .value (.func f), args := #[x, y, z], argTypes := tys })
    (eg : ∀ vs w, (callFunc f vs).run P w = .ok (.enter f vs) w) (v1 v2 v3 : Value) (hx : Act.eval { tmps := t, defers := [] } x = v1) (hy : Act.eval { tmps := t, defers := [] } y = v2) (hz : Act.eval { tmps := t, defers := [] } z = v3)
    {R : Ending → World → Prop} (hc : Calls P f #[v1, v2, v3] w R)
    (h : ∀ e w', R e w' → ∃ u, e = .returned u ∧ S w' ∧ wpAnyH P md ops Q S fuel (listed.setIfInBounds i true) { tmps := t.setIfInBounds d u, defers := [] } w') : wpAnyH P md ops Q S (fuel + 1) listed { tmps := t, defers := [] } w := by
  refine wpAnyH_all hr (by simp) (fun j hj => ?_)
  obtain rfl : j = i := by simpa using hj
  unfold wpOp
  rw [hi]
  dsimp only
  rw [if_pos hw]
  left
  have hrun : (execOp (Act.eval { tmps := t, defers := [] }) oi).run P w = .ok (.enter f #[v1, v2, v3]) w := by
    subst hx hy hz
    simp [execOp, hop, resolve, invoke, Act.eval, go_sem, eg]
  unfold Oper.wp
  rw [hrun, Oper.upon_enter]
  refine hc.mono ?_
  intro e w' hr
  obtain ⟨u, rfl, h1, h2⟩ := h e w' hr
  show S w' ∧ wpAnyH P md ops Q S fuel (listed.setIfInBounds j true) (Act.put { tmps := t, defers := [] } oi.dst u) w'
  rw [show (Act.put { tmps := t, defers := [] } oi.dst u) = { tmps := t.setIfInBounds d u, defers := [] } from by simp [Act.put, hd]]
  exact ⟨h1, h2⟩
end

/-- 'make([]byte, 1024)', run. -/
theorem make_run (w : World) : ∃ w', (Instr.makeSlice 27 (.int .i64 1024) (.int .i64 1024)).run Try.prog w = .ok (.slice (some ⟨w.heap.size, 0, none⟩) 1024 1024) w' ∧ w'.heap[w.heap.size]? = some (.cells (By (zeros 1024)).toArray 5 (0, 0)) ∧ w.grownBy w' none := by
  obtain ⟨i0, hi, hz0, hz1, hz2⟩ := info5p
  obtain ⟨w', h1, h2, h3⟩ := run_make_full (P := Try.prog) w w.heap.size 27 5 i0 (.int .u8 0) 1 Try.underlying27 hi hz0 hz1 .i64 .i64 1024 (by rw [hz2]; omega) (by decide) (Nat.le_refl _)
  exact ⟨w', h1, (make_zeros h2 h3).1, h3⟩

/-- The write on the other disk: what is left behind it. -/
theorem plays_o {base ga : Nat} {W1 W2 : World} {d o m : Nat} {s so : DS} {B k : Nat} {blk : Obj} (vb : Int) (hT : Tri base (fun j => j = ga) W1 d o m s so s) (hga : W1.heap[ga]? = some blk) (hb : base ≤ W1.heap.size) (hB : B ≤ 50) (hk : k ≤ 200) (hpo : PlI so B k)
    (hm : W2.heap[W1.heap.size]? = some (.cells (By (zeros 1024)).toArray 5 (0, 0))) (hg : W1.grownBy W2 none) :
    Calls Try.prog 9 #[.pointer (some ⟨o, 0, none⟩), .int .i64 vb, .slice (some ⟨W1.heap.size, 0, none⟩) 1024 1024] W2 fun e W' => ∃ bt : Bool, e = .returned (.bool bt) ∧ W'.heap[ga]? = some blk ∧
      (∃ so', PlI so' B (k + 1) ∧ Tri base (fun j => j = ga) W' d o m s so' s) ∧ Below base W1 W' := by
  have hgl : ga < W1.heap.size := by
    rcases Nat.lt_or_ge ga W1.heap.size with h | h
    · exact h
    · rw [Array.getElem?_eq_none h] at hga; cases hga
  have hs := hg.size
  have hlt := lt_of_block hm
  have hO : Only (fun _ => False) W1 W2 := (Only.refl (fun _ => False) W1).grown hg (by simp)
  have hT2 : Tri base (fun j => j = ga ∨ j = W1.heap.size) W2 d o m s so s :=
    (hT.avoid (Y := fun j => j = ga ∨ j = W1.heap.size) (fun j e => by rcases e with e | e; exact .inl e; exact .inr (.inl (by omega)))).only (hO.mono (fun _ _ h => h.elim))
  have hbat : BAt W2 (some ⟨W1.heap.size, 0, none⟩) 1024 (zeros 1024) := ⟨zeros_len _, fun _ => ⟨_, rfl, hlt, fun i hi => by have := bytes_at hm 0 i (by rw [zeros_len]; omega); rwa [Nat.zero_add] at this⟩⟩
  refine (tri_write_d hT2.swap (fun j e => by omega) (by omega) (2 * k) (by rw [hpo.img]; omega) hpo.sane (by omega) vb (some ⟨W1.heap.size, 0, none⟩) 1024 1024 (zeros 1024) hbat (Nat.le_refl _) (by omega) (fun a e _ => by cases e; exact .inl (.inr rfl))).mono ?_
  rintro e W' ⟨rfl, hT3, hO3⟩
  refine ⟨_, rfl, ?_, ⟨_, hpo.write vb _, hT3.swap.avoid (fun j e => .inl (.inl e))⟩, (hO.below hb (fun _ h => h.elim)).trans (hO3.below (by omega) (fun j e => e.1))⟩
  rw [hO3.block ga (by omega) (fun e => e.2 (.inl rfl)), hO.block ga hgl (fun h => h), hga]

end Go.Proofs.Ytochgjajlojfeaa
