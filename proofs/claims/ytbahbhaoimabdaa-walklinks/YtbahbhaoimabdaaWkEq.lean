/-
  Slots as values: which are one.
-/
import Derived.Test.YtbahbhaoimabdaaWkRow
namespace Go.Proofs.Ytbahbhaoimabdaa
open Go Go.Proofs Go.RowKit Go.Shelf

theorem str_eq (s t : ByteArray) : (s.toList == t.toList) = decide (s = t) := by
  rw [ByteArray.toList_eq, ByteArray.toList_eq]
  by_cases h : s = t
  · simp [h]
  · rw [decide_eq_false h, beq_eq_false_iff_ne]
    intro e
    obtain ⟨⟨x⟩⟩ := s
    obtain ⟨⟨y⟩⟩ := t
    simp at e
    subst e
    exact h rfl
/-- The cells of an entry. -/
def entC (i : Int) (s : ByteArray) : List Value := [.int .i64 i, .string s]
/-- An entry as a value. -/
def entV (i : Int) (s : ByteArray) : Value := .agg (entC i s).toArray
def noS : ByteArray := ⟨#[]⟩
/-- Are two entries equal? -/
def eqE (i : Int) (s : ByteArray) (j : Int) (t : ByteArray) : Bool := decide (i = j ∧ s = t)
theorem eqE_self (i : Int) (s : ByteArray) : eqE i s i s = true := by simp [eqE]
theorem entC_one (i : Int) (s : ByteArray) : ∀ u ∈ entC i s, u.oneCell' = true := by
  intro u hu
  simp [entC] at hu
  rcases hu with rfl | rfl <;> rfl
theorem fields26 : Try.prog.fieldsOf 41 = #[{ name := "Ino", type := 3, offset := 0, embedded := false, tag := "", pkgPath := "", byteOffset := 0 }, { name := "Name", type := 9, offset := 1, embedded := false, tag := "", pkgPath := "", byteOffset := 8 }] := by
  simp [Program.fieldsOf, Try.underlying41]
theorem equal_ent (i : Int) (s : ByteArray) (j : Int) (t : ByteArray) (w : World) : (Op.equalIn 10000 41 (entV i s) (entV j t)).run Try.prog w = .ok (eqE i s j t) w := by
  unfold entV entC
  rw [run_equalIn_agg w 9999 41 _ _ (by rw [fields26]; exact Try.underlying41) (by kernel_rfl), fields26]
  simp [Op.eqFields, part, isAgg, run_underlying Try.underlying3, run_underlying Try.underlying9, run_equalIn_int _ 9998 3 .i64 .i64 _ _ Try.underlying3, run_equalIn_string _ 9998 9 _ _ Try.underlying9, str_eq]
  by_cases h0 : i = j <;> by_cases h1 : s = t <;> simp [eqE, h0, h1]
theorem eql_ent (i : Int) (s : ByteArray) (j : Int) (t : ByteArray) (w : World) : (binOp .eql 41 (entV i s) (entV j t)).run Try.prog w = .ok (.bool (eqE i s j t)) w := by
  have h := equal_ent i s j t w
  unfold entV at h ⊢
  rw [run_eql_struct, h]
  rfl
theorem neq_ent (i : Int) (s : ByteArray) (j : Int) (t : ByteArray) (w : World) : (binOp .neq 41 (entV i s) (entV j t)).run Try.prog w = .ok (.bool (!eqE i s j t)) w := by
  have h := equal_ent i s j t w
  unfold entV at h ⊢
  rw [run_neq_struct, h]
  rfl
theorem exec_eql {ev : Operand → Value} {oi : Oper} {x y : Operand} {u : TypeId} {i j : Int} {s t : ByteArray} {w : World} (ho : oi.op = .binOp .eql 41 x y u) (hx : ev x = entV i s) (hy : ev y = entV j t) : (execOp ev oi).run Try.prog w = .ok (.value (.bool (eqE i s j t))) w := by
  unfold execOp
  rw [ho]
  simp only [hx, hy]
  have hg := run_eqGuard_agg (P := Try.prog) w .eql 41 x y (entC i s).toArray (entC j t).toArray (by kernel_rfl)
  have hb := eql_ent i s j t w
  unfold entV at hb ⊢
  simp only [Sem.run_bind, hg, hb, Result.andThen_ok]
  rfl
theorem exec_neq {ev : Operand → Value} {oi : Oper} {x y : Operand} {u : TypeId} {i j : Int} {s t : ByteArray} {w : World} (ho : oi.op = .binOp .neq 41 x y u) (hx : ev x = entV i s) (hy : ev y = entV j t) : (execOp ev oi).run Try.prog w = .ok (.value (.bool (!eqE i s j t))) w := by
  unfold execOp
  rw [ho]
  simp only [hx, hy]
  have hg := run_eqGuard_agg (P := Try.prog) w .neq 41 x y (entC i s).toArray (entC j t).toArray (by kernel_rfl)
  have hb := neq_ent i s j t w
  unfold entV at hb ⊢
  simp only [Sem.run_bind, hg, hb, Result.andThen_ok]
  rfl
theorem eqE_same (x y : EnV) : eqE x.ino x.nm y.ino y.nm = sameE x y := by
  unfold eqE sameE
  by_cases h : x.ino = y.ino <;> by_cases g : x.nm = y.nm <;> simp [h, g]
end Go.Proofs.Ytbahbhaoimabdaa
