/-
  Read of the program.
-/
import Derived.Test.YteegopccpgbakaaEntAlive
namespace Go.Proofs.Yteegopccpgbakaa
open Go Go.Proofs Go.RowKit Go.Shelf
namespace Ent
theorem _root_.Go.Proofs.Yteegopccpgbakaa.BAt.frontEnt {W : World} {a : Addr} {n : Nat} {xs : List Int} (h : BAt W (some a) n xs) (m : Nat) (hm : m ≤ n) : BAt W (some a) m (xs.take m) := by
  refine ⟨by simp [h.1]; omega, fun hp => ?_⟩
  obtain ⟨a', e, hlt, hc⟩ := h.2 (by omega)
  refine ⟨a', e, hlt, fun i hi => ?_⟩
  rw [hc i (by omega)]
  simp [List.getD, hi]
theorem loadVar26 {b : Nat} {i : Int} {s : ByteArray} {W : World} (hN : NAt b i s W) : (loadVar 48 ⟨b, 0, none⟩).run Try.prog W = .ok (entV i s) W := by
  have h := load26_run hN
  simpa [Instr.loadAt, Instr.sureAddr] using h
theorem results_cell2 {f : Func} {tmps : Array Value} {a c b : Nat} {i : Int} {s : ByteArray} {W : World} (hf : f.results = #[.cell a 48, .tmp c]) (ht : tmps.getD a undef = .pointer (some ⟨b, 0, none⟩)) (hN : NAt b i s W) : (results f tmps).run Try.prog W = .ok (.tuple #[entV i s, tmps.getD c undef]) W := by
  have h := loadVar26 hN
  have ht2 : tmps[a]?.getD undef = .pointer (some ⟨b, 0, none⟩) := by rw [← ht]; simp
  unfold results
  rw [hf]
  simp [ht2, asAddr, h]
theorem alloc26_any (W : World) : ∃ X c, (Instr.alloc 48 true (.tuple #[])).run Try.prog W = .ok (.pointer (some ⟨c, 0, none⟩)) X ∧ NAt c 0 noS X ∧ Below W.heap.size W X ∧ W.heap.size ≤ c :=
  ⟨_, _, alloc26_run W, NAt.new W _ _, (Below.refl _ W).alloc (Nat.le_refl _) _, Nat.le_refl _⟩
theorem exec_alloc {ev : Operand → Value} {oi : Oper} {v : Value} {W X : World} (ho : oi.op = .alloc 48) (h : (Instr.alloc 48 true (.tuple #[])).run Try.prog W = .ok v X) : (execOp ev oi).run Try.prog W = .ok (.value v) X := by
  unfold execOp
  rw [ho]
  simp only [Sem.run_bind, h, Result.andThen_ok]
  rfl
section
variable {w : World} {ops : Array Oper} {rest : List Oper} {o : Oper} {a : Act} {Q : Exit → Act → World → Prop}
theorem wpL_new (ho : o.op = .alloc 48) (hw : Region.wanted o (yielded ops a.tmps) = true) (v : Value) (w' : World) (hr : (Instr.alloc 48 true (.tuple #[])).run Try.prog w = .ok v w') (h : wpList Try.prog ops Q rest (a.put o.dst v) w') : wpList Try.prog ops Q (o :: rest) a w :=
  wpList_known hw _ _ (exec_alloc ho hr) h
end
theorem rd_no {xs : List Int} (h : rdB xs = false) : rdI xs = 0 ∧ rdS xs = noS ∧ rdE xs = 5 := by simp [rdI, rdS, rdE, h]
theorem rd_yes {xs : List Int} (h : rdB xs = true) : rdI xs = gotI xs ∧ rdS xs = strOfNums (gotL xs) ∧ rdE xs = 0 := by simp [rdI, rdS, rdE, h]
theorem add4 (a : Addr) : a.add 4 = ⟨a.block, a.off + 4, none⟩ := by simp [Addr.add]
end Ent
end Go.Proofs.Yteegopccpgbakaa
