/-
  inodeOf of the program.
-/
import Derived.Test.YteegopccpgbakaaDinWords
namespace Go.Proofs.Yteegopccpgbakaa
open Go Go.Proofs Go.RowKit Go.Shelf
namespace Din
theorem exec_copy {P : Program} {ev : Operand → Value} {oi : Oper} {d s : Operand} {t u : TypeId} {v vx v' : Value} {w w' : World} (ho : oi.op = .call { callee := .builtin .copy, args := #[d, s], argTypes := #[t, u] }) (hd : ev d = v) (hs : ev s = vx) (hrun : (Builtin.copy_ #[t, u] oi.type #[v, vx]).run P w = .ok v' w') : (execOp ev oi).run P w = .ok (.value v') w' := by
  unfold execOp
  simp only [ho, resolve, invoke, builtin, Sem.run_bind, Sem.run_pure, Result.andThen_ok, List.map_toArray, List.map_cons, List.map_nil, hd, hs, hrun]
theorem loadCells24 {b : Nat} {l : List Int} {W : World} (hN : NAt b l W) (hl : l.length = 13) : (loadCells ⟨b, 0, none⟩ 13).run Try.prog W = .ok (Iy l).toArray W := by
  have h := run_loadCells_list (P := Try.prog) W ⟨b, 0, none⟩ (Iy l) (fun j v hj => by
    have hjl := (List.getElem?_eq_some_iff.1 hj).1
    rw [Iy_length] at hjl
    rw [Iy_get l j hjl] at hj
    rw [add_at, Nat.zero_add, hN.cell j hjl]
    exact hj)
  rwa [Iy_length, hl] at h
theorem loadVar24 {b : Nat} {l : List Int} {W : World} (hN : NAt b l W) (hl : l.length = 13) : (loadVar 45 ⟨b, 0, none⟩).run Try.prog W = .ok (inoV l) W := by
  simp [loadVar, loadCells24 hN hl, inoV]
theorem exec_alloc {P : Program} {ev : Operand → Value} {oi : Oper} {t : TypeId} {v : Value} {w w' : World} (ho : oi.op = .alloc t) (h : (Instr.alloc t true (.tuple #[])).run P w = .ok v w') : (execOp ev oi).run P w = .ok (.value v) w' := by
  unfold execOp
  rw [ho]
  simp only [Sem.run_bind, h, Result.andThen_ok]
  rfl
theorem results_cell1 {f : Func} {tmps : Array Value} {a b : Nat} {l : List Int} {W : World} (hf : f.results = #[.cell a 45]) (ht : tmps.getD a undef = .pointer (some ⟨b, 0, none⟩)) (hN : NAt b l W) (hl : l.length = 13) : (results f tmps).run Try.prog W = .ok (inoV l) W := by
  have h := loadVar24 hN hl
  have ht2 : tmps[a]?.getD undef = .pointer (some ⟨b, 0, none⟩) := by rw [← ht]; simp
  unfold results
  rw [hf]
  simp [ht2, asAddr, h]
theorem results_cell2 {f : Func} {tmps : Array Value} {a c b : Nat} {l : List Int} {W : World} (hf : f.results = #[.cell a 45, .tmp c]) (ht : tmps.getD a undef = .pointer (some ⟨b, 0, none⟩)) (hN : NAt b l W) (hl : l.length = 13) : (results f tmps).run Try.prog W = .ok (.tuple #[inoV l, tmps.getD c undef]) W := by
  have h := loadVar24 hN hl
  have ht2 : tmps[a]?.getD undef = .pointer (some ⟨b, 0, none⟩) := by rw [← ht]; simp
  unfold results
  rw [hf]
  simp [ht2, asAddr, h]
theorem direct_run {b g : Nat} {l ws : List Int} {W : World} (hN : NAt b l W) (hl : l.length = 13) (hq : QAt W g ws) (hw : ws.length = 11) :
    ∃ W', (Builtin.copy_ #[66, 66] 3 #[.slice (some ⟨b, 3, none⟩) 8 8, .slice (some ⟨g, 1, none⟩) 10 10]).run Try.prog W = .ok (.int .i64 8) W' ∧ NAt b (l.take 3 ++ (ws.drop 1).take 8 ++ l.drop 11) W' ∧ Only (fun k => k = b) W W' := by
  obtain ⟨i0, hi, hz0, hz1, hz2⟩ := info3p
  have hcl : (Iy ((ws.drop 1).take 8)).length = min 10 8 := by rw [Iy_length]; simp; omega
  have hr := run_copy_row (P := Try.prog) W 66 66 3 3 b 3 8 8 ⟨g, 1, none⟩ 10 10 (Iy l).toArray 45 (Iy ((ws.drop 1).take 8)) Try.underlying66 (by rw [hi]; simp [hz1]) hN hcl (fun j u hj => by
    have hjl := (List.getElem?_eq_some_iff.1 hj).1
    rw [Iy_length] at hjl
    rw [Iy_get _ j hjl] at hj
    have hj2 : j < 8 := by simp at hjl; omega
    rw [add_at, blk_cell hq]
    have e := Iy_get ws (1 + j) (by omega)
    rw [show (Iy ws).toArray[1 + j]? = (Iy ws)[1 + j]? by simp, e]
    rw [← hj]
    simp [List.getD, hj2, Nat.add_comm]) (by rw [hcl]; simp [Iy_length]; omega) (Iy_one _)
  have e : (Iy (l.take 3 ++ (ws.drop 1).take 8 ++ l.drop 11)).toArray = ((Iy l).toArray.toList.take 3 ++ Iy ((ws.drop 1).take 8) ++ (Iy l).toArray.toList.drop (3 + (Iy ((ws.drop 1).take 8)).length)).toArray := by
    rw [hcl]
    simp [Iy, List.map_take, List.map_drop]
  refine ⟨W.setRow b (Iy (l.take 3 ++ (ws.drop 1).take 8 ++ l.drop 11)).toArray, hr.trans ?_, setRow_heap W b _ _ 45 _ hN, (Only.refl (fun k => k = b) W).setRow (.inl rfl) _⟩
  rw [e, hcl]
  rfl
end Din
end Go.Proofs.Yteegopccpgbakaa
