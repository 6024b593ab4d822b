/-
  Rows of entries in memory; copy and append of rows.
-/
import Derived.Test.YteegopccpgbakaaEntPacksWalk
namespace Go.Proofs.Yteegopccpgbakaa
open Go Go.Proofs Go.RowKit Go.Shelf
namespace Ent
/-- Entries as cells, two each. -/
def Ey (L : List (Int × ByteArray)) : List Value := L.flatMap (fun e => entC e.1 e.2)
def noE : Int × ByteArray := (0, noS)
theorem Ey_cons (e : Int × ByteArray) (L : List (Int × ByteArray)) : Ey (e :: L) = .int .i64 e.1 :: .string e.2 :: Ey L := rfl
theorem Ey_append (L M : List (Int × ByteArray)) : Ey (L ++ M) = Ey L ++ Ey M := by simp [Ey]
theorem Ey_length (L : List (Int × ByteArray)) : (Ey L).length = L.length * 2 := by
  induction L with
  | nil => rfl
  | cons e L ih => rw [Ey_cons]; simp [ih]; omega
theorem Ey_get (L : List (Int × ByteArray)) : ∀ (k : Nat), k < L.length → (Ey L)[k * 2]? = some (.int .i64 (L.getD k noE).1) ∧ (Ey L)[k * 2 + 1]? = some (.string (L.getD k noE).2) := by
  induction L with
  | nil => intro k h; simp at h
  | cons e L ih =>
    intro k h
    cases k with
    | zero => exact ⟨rfl, rfl⟩
    | succ k =>
      have := ih k (by simpa using h)
      rw [Ey_cons, show (k + 1) * 2 = k * 2 + 1 + 1 by omega]
      simpa using this
theorem Ey_one (L : List (Int × ByteArray)) : ∀ u ∈ Ey L, u.oneCell' = true := by
  intro u hu
  obtain ⟨e, _, h⟩ := List.mem_flatMap.1 hu
  exact entC_one _ _ u h
/-- A slice of entries as it lies in a world. -/
def EAt (W : World) (ao : Option Addr) (n : Nat) (L : List (Int × ByteArray)) : Prop :=
  L.length = n ∧ (0 < n → ∃ a, ao = some a ∧ a.block < W.heap.size ∧ ∀ k, k < n → W.cell? (a.add (k * 2)) = some (.int .i64 (L.getD k noE).1) ∧ W.cell? (a.add (k * 2 + 1)) = some (.string (L.getD k noE).2))
theorem EAt.only {S : Nat → Prop} {W W' : World} {ao : Option Addr} {n : Nat} {L : List (Int × ByteArray)} (h : EAt W ao n L) (ho : Only S W W') (hS : ∀ a, ao = some a → a.block < W.heap.size → ¬ S a.block) : EAt W' ao n L := by
  refine ⟨h.1, fun hn => ?_⟩
  obtain ⟨a, e, hlt, hc⟩ := h.2 hn
  refine ⟨a, e, Nat.lt_of_lt_of_le hlt ho.size, fun i hi => ?_⟩
  have hb := ho.block _ hlt (hS a e hlt)
  have e1 : W'.cell? (a.add (i * 2)) = W.cell? (a.add (i * 2)) := World.cell?_of_block (by rw [add_block]; exact hb)
  have e2 : W'.cell? (a.add (i * 2 + 1)) = W.cell? (a.add (i * 2 + 1)) := World.cell?_of_block (by rw [add_block]; exact hb)
  rw [e1, e2]
  exact hc i hi
theorem EAt.below {W W' : World} {ao : Option Addr} {n : Nat} {L : List (Int × ByteArray)} (h : EAt W ao n L) (hB : Below W.heap.size W W') : EAt W' ao n L := h.only (Only.of_new (fun _ => False) hB) (fun _ _ _ h => h)
theorem add_add (a : Addr) (i j : Nat) : (a.add i).add j = a.add (i + j) := by
  unfold Addr.add
  by_cases h1 : i = 0
  · subst h1; simp
  · by_cases h2 : j = 0
    · subst h2; simp [h1]
    · simp [h1, h2, Nat.add_assoc]
theorem EAt.at {W : World} {ao : Option Addr} {n : Nat} {L : List (Int × ByteArray)} (h : EAt W ao n L) (k : Nat) (hk : k < n) : ∃ a, ao = some a ∧ a.block < W.heap.size ∧ (Instr.loadAt 48 (.pointer (some (a.add (k * 2))))).run Try.prog W = .ok (entV (L.getD k noE).1 (L.getD k noE).2) W ∧ W.cell? (a.add (k * 2 + 1)) = some (.string (L.getD k noE).2) := by
  obtain ⟨a, e, hlt, hc⟩ := h.2 (by omega)
  obtain ⟨h1, h2⟩ := hc k hk
  exact ⟨a, e, hlt, load26_at (by rw [add_add]; exact h1) (by rw [add_add]; exact h2), h2⟩
theorem EAt.nilEnt (W : World) (ao : Option Addr) : EAt W ao 0 [] := ⟨rfl, fun h => absurd h (Nat.lt_irrefl 0)⟩
theorem owns_EAt {w : World} {base : Nat} {v : Value} {n : Nat} {L : List (Int × ByteArray)} (h : w.ownsRow base 48 2 v n (Ey L)) : ∃ ao c, v = .slice ao n c ∧ EAt w ao n L ∧ (∀ a, ao = some a → base ≤ a.block ∧ v.ownBlock = some a.block) ∧ n ≤ c ∧ c ≤ 9223372036854775807 := by
  obtain ⟨h1, h2⟩ := h
  rw [Ey_length] at h1
  have hl : L.length = n := by omega
  rcases h2 with ⟨rfl, rfl⟩ | ⟨g, cap, cur, rfl, hg, hh, hnc, hm, hsz, ht⟩
  · exact ⟨none, 0, rfl, ⟨hl, fun h => by omega⟩, fun a e => (by cases e), Nat.le_refl _, by omega⟩
  · refine ⟨_, _, rfl, ⟨hl, fun _ => ⟨_, rfl, lt_of_block hh, fun k hk => ?_⟩⟩, fun a e => (by cases e; exact ⟨hg, rfl⟩), hnc, by unfold maxLen at hm; omega⟩
    have get : ∀ j, j < n * 2 → cur[j]? = (Ey L)[j]? := fun j hj => by
      rw [← Array.getElem?_toList, ← ht, List.getElem?_take, if_pos hj]
    rw [add_at, add_at, blk_cell hh, blk_cell hh, Nat.zero_add, Nat.zero_add, get _ (by omega), get _ (by omega)]
    exact Ey_get L k (by omega)
/-- []api.Entry of one: its cells. -/
theorem exec_one26 {ev : Operand → Value} {oi : Oper} {x : Operand} {i : Int} {s : ByteArray} {W : World} (ho : oi.op = .buildSlice 49 1 #[(0, x)]) (hx : ev x = entV i s) : (execOp ev oi).run Try.prog W = .ok (.value (.slice (some ⟨W.heap.size, 0, none⟩) 1 1)) (W.alloc (.cells (entC i s).toArray 48)) := by
  obtain ⟨i0, hi, hz0, hz1, hz2⟩ := info26p
  unfold execOp
  rw [ho]
  simp only [hx, List.map_toArray, List.map_cons, List.map_nil]
  simp [Instr.buildSlice, run_underlying Try.underlying49, zeroValue, typeInfo, hi, hz0, hz1, newRow, entV, Value.cells, entC, Instr.fill, sizeOf]
  rw [show Array.range 2 = #[0, 1] from by decide]
  simp
section
variable {w : World} {ops : Array Oper} {rest : List Oper} {o : Oper} {a : Act} {Q : Exit → Act → World → Prop}
theorem wpL_one (x : Operand) (ho : o.op = .buildSlice 49 1 #[(0, x)]) (hw : Region.wanted o (yielded ops a.tmps) = true) (i : Int) (s : ByteArray) (q : Nat) (W1 : World) (hq : q = w.heap.size) (hW : W1 = w.alloc (.cells (entC i s).toArray 48)) (hx : a.eval x = entV i s) (h : wpList Try.prog ops Q rest (a.put o.dst (.slice (some ⟨q, 0, none⟩) 1 1)) W1) : wpList Try.prog ops Q (o :: rest) a w := by
  subst hq hW
  exact wpList_known hw _ _ (exec_one26 ho hx) h
end
/-- append(l, e). -/
theorem appende_run (W : World) (B : Nat) (v : Value) (n : Nat) (L : List (Int × ByteArray)) (i : Int) (s : ByteArray) (hown : W.ownsRow B 48 2 v n (Ey L)) (hB : B ≤ W.heap.size) (hn : n ≤ 16777216) :
    ∃ v' W', (Builtin.append_ #[49, 49] 49 #[v, .slice (some ⟨W.heap.size, 0, none⟩) 1 1]).run Try.prog (W.alloc (.cells (entC i s).toArray 48)) = .ok v' W' ∧ W'.ownsRow B 48 2 v' (n + 1) (Ey (L ++ [(i, s)])) ∧ Below B W W' := by
  obtain ⟨i0, hi, hz0, hz1, hz2⟩ := info26p
  have hnew := blk_new W (.cells (entC i s).toArray 48)
  obtain ⟨v3, W3, hr, hown3, hg3, _⟩ := run_append_own (P := Try.prog) (W.alloc (.cells (entC i s).toArray 48)) B 49 49 48 i0 (entV 0 noS) 2 24 Try.underlying49 hi hz0 hz1 hz2 rfl (by decide) v n (Ey L) (hown.alloc _) ⟨W.heap.size, 0, none⟩ 1 1 (entC i s) rfl (fun j u hj => by
    match j, hj with
    | 0, hj => cases hj; rw [add_at, blk_cell hnew]; rfl
    | 1, hj => cases hj; rw [add_at, blk_cell hnew]; rfl) (entC_one i s) (by unfold maxLen; omega) (by omega) (by simp; omega)
  have e : Ey L ++ entC i s = Ey (L ++ [(i, s)]) := by rw [Ey_append]; simp [Ey]
  rw [e] at hown3
  refine ⟨v3, W3, hr, hown3, ?_⟩
  refine ((Below.refl _ W).alloc hB _).grown hg3 (by simp; omega) (fun k hk => ?_)
  exact (hown.lt k hk).1
/-- copy(b[o:], c). -/
theorem copy_run (W : World) (g o dLen dCap : Nat) (xs ys : List Int) (ao : Option Addr) (n c : Nat) (h : RAt W g xs) (hb : BAt W ao n ys) (hnone : ao = none → n = 0 ∧ c = 0) (hl : o + dLen ≤ xs.length) :
    ∃ W', (Builtin.copy_ #[26, 26] 3 #[.slice (some ⟨g, o, none⟩) dLen dCap, .slice ao n c]).run Try.prog W = .ok (.int .i64 (min n dLen : Nat)) W' ∧ RAt W' g (splice xs o (ys.take (min n dLen))) ∧ Only (fun k => k = g) W W' := by
  obtain ⟨i0, hi, hz0, hz1, hz2⟩ := info5p
  cases ao with
  | none =>
    obtain ⟨rfl, rfl⟩ := hnone rfl
    refine ⟨W, ?_, ?_, Only.refl _ _⟩
    · rw [run_copy_nil (P := Try.prog) W 26 26 3 5 ⟨g, o, none⟩ dLen dCap Try.underlying26 (by rw [hi]; simp)]
      simp
      rfl
    · simpa [splice] using h
  | some a =>
    have hyl := hb.1
    have hcl : (By (ys.take (min n dLen))).length = min n dLen := by rw [By_length, List.length_take]; omega
    have hr := run_copy_row (P := Try.prog) W 26 26 3 5 g o dLen dCap a n c (By xs).toArray 5 (By (ys.take (min n dLen))) Try.underlying26 (by rw [hi]; simp [hz1]) h hcl (fun j u hj => by
      have hjl := (List.getElem?_eq_some_iff.1 hj).1
      rw [By_length] at hjl
      rw [By_get _ j hjl] at hj
      have hj2 : j < min n dLen := by simp at hjl; omega
      obtain ⟨a', e, hc⟩ := hb.at j (by omega)
      cases e
      rw [hc]
      have e : (ys.take (min n dLen)).getD j 0 = ys.getD j 0 := by simp only [List.getD, List.getElem?_take, if_pos hj2]
      rwa [e] at hj) (by rw [hcl]; simp [By_length]; omega) (By_one _)
    refine ⟨W.setRow g (By (splice xs o (ys.take (min n dLen)))).toArray, hr.trans ?_, setRow_heap W g _ _ 5 _ h, (Only.refl (fun k => k = g) W).setRow (.inl rfl) _⟩
    rw [hcl]
    have e : (By xs).toArray.toList.take o ++ By (ys.take (min n dLen)) ++ (By xs).toArray.toList.drop (o + min n dLen) = By (splice xs o (ys.take (min n dLen))) := by
      have : (ys.take (min n dLen)).length = min n dLen := by simp; omega
      unfold splice
      rw [this]
      simp [By]
    rw [e]
    rfl
/-- append(b, c...). -/
theorem append_row_run (W : World) (B : Nat) (v : Value) (n : Nat) (xs : List Int) (hown : W.ownsRow B 5 1 v n (By xs)) (hB : B ≤ W.heap.size) (a : Addr) (m c : Nat) (ys : List Int) (hb : BAt W (some a) m ys) (hn : n + m ≤ 16777216) :
    ∃ v' W', (Builtin.append_ #[26, 26] 26 #[v, .slice (some a) m c]).run Try.prog W = .ok v' W' ∧ W'.ownsRow B 5 1 v' (n + m) (By (xs ++ ys)) ∧ W.grownBy W' v.ownBlock := by
  obtain ⟨i0, hi, hz0, hz1, hz2⟩ := info5p
  obtain ⟨v3, W3, hr, hown3, hg3, _⟩ := run_append_own (P := Try.prog) W B 26 26 5 i0 (.int .u8 0) 1 1 Try.underlying26 hi hz0 hz1 hz2 rfl (by decide) v n (By xs) hown a m c (By ys) (by rw [By_length, hb.1, Nat.mul_one]) (fun j u hj => by
      have hjl := (List.getElem?_eq_some_iff.1 hj).1
      rw [By_length] at hjl
      rw [By_get ys j hjl] at hj
      obtain ⟨a', e, hc⟩ := hb.at j (by rw [← hb.1]; exact hjl)
      cases e
      rw [hc]
      exact hj) (By_one ys) (by unfold maxLen; omega) (by omega) hB
  have e : By xs ++ By ys = By (xs ++ ys) := by simp [By]
  rw [e] at hown3
  exact ⟨v3, W3, hr, hown3, hg3⟩
/-! Blocks of entries: numbers alone. -/
/-- May all of them be? -/
def allB (L : List (Int × ByteArray)) : Bool := L.all (fun e => isB e.1 (nm e.2))
/-- Their bytes, one behind the other. -/
def catL (L : List (Int × ByteArray)) : List Int := L.flatMap (fun e => entL e.1 (nm e.2))
theorem allB_snoc (L : List (Int × ByteArray)) (e : Int × ByteArray) : allB (L ++ [e]) = (allB L && isB e.1 (nm e.2)) := by simp [allB]
theorem catL_snoc (L : List (Int × ByteArray)) (e : Int × ByteArray) : catL (L ++ [e]) = catL L ++ entL e.1 (nm e.2) := by simp [catL]
theorem catL_length (L : List (Int × ByteArray)) (h : allB L = true) : (catL L).length = 32 * L.length := by
  induction L with
  | nil => rfl
  | cons e L ih =>
    simp [allB] at h
    have e1 : catL (e :: L) = entL e.1 (nm e.2) ++ catL L := by simp [catL]
    rw [e1, List.length_append, entL_length _ _ (isB_parts h.1).2, ih (by simpa [allB] using h.2)]
    simp
    omega
theorem catL_bound (L : List (Int × ByteArray)) (h : allB L = true) : ∀ x ∈ catL L, 0 ≤ x ∧ x ≤ 255 := by
  intro x hx
  obtain ⟨e, he, hm⟩ := List.mem_flatMap.1 hx
  have h1 : isB e.1 (nm e.2) = true := List.all_eq_true.1 h e he
  exact entL_bound _ _ (isB_parts h1).2 (nm_bound _) x hm
theorem takeE_snoc (L : List (Int × ByteArray)) (k : Nat) (h : k < L.length) : L.take (k + 1) = L.take k ++ [L.getD k noE] := by
  rw [List.take_succ_eq_append_getElem h]
  simp [List.getD, List.getElem?_eq_getElem h]
theorem allB_no {L : List (Int × ByteArray)} {k : Nat} (hk : k < L.length) (h : isB (L.getD k noE).1 (nm (L.getD k noE).2) = false) : allB L = false := by
  cases hh : allB L with
  | false => rfl
  | true =>
    have hm : L.getD k noE ∈ L := by simp [List.getD, List.getElem?_eq_getElem hk]
    have := List.all_eq_true.1 hh _ hm
    rw [this] at h
    cases h
end Ent
end Go.Proofs.Yteegopccpgbakaa
