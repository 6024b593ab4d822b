/-
  Rows of changes in memory; a copy of a row of bytes.
-/
import Derived.Test.YtjljklfahmjngaaPaLap
namespace Go.Proofs.Ytjljklfahmjngaa
open Go Go.Proofs Go.RowKit Go.Shelf
/-- A change: its numbers, where its bytes lie, and what they are. -/
structure Pt where
  id : Int
  at' : Int
  ao : Option Addr
  n : Nat
  c : Nat
  xs : List Int
def Pt.val (p : Pt) : Value := .slice p.ao p.n p.c
def Pt.see (p : Pt) : Int × Int × List Int := (p.id, p.at', p.xs)
def paC (i a : Int) (v : Value) : List Value := [.int .i64 i, .int .i64 a, v]
def Pt.cs (p : Pt) : List Value := paC p.id p.at' p.val
def noP : Pt := ⟨0, 0, none, 0, 0, []⟩
/-- Changes as cells, three each. -/
def Py (L : List Pt) : List Value := L.flatMap Pt.cs
theorem Py_cons (p : Pt) (L : List Pt) : Py (p :: L) = .int .i64 p.id :: .int .i64 p.at' :: p.val :: Py L := rfl
theorem Py_append (L M : List Pt) : Py (L ++ M) = Py L ++ Py M := by simp [Py]
theorem Py_length (L : List Pt) : (Py L).length = L.length * 3 := by
  induction L with
  | nil => rfl
  | cons e L ih => rw [Py_cons]; simp [ih]; omega
theorem Py_get (L : List Pt) : ∀ (k : Nat), k < L.length → (Py L)[k * 3]? = some (.int .i64 (L.getD k noP).id) ∧ (Py L)[k * 3 + 1]? = some (.int .i64 (L.getD k noP).at') ∧ (Py L)[k * 3 + 2]? = some (L.getD k noP).val := by
  induction L with
  | nil => intro k h; simp at h
  | cons e L ih =>
    intro k h
    cases k with
    | zero => exact ⟨rfl, rfl, rfl⟩
    | succ k =>
      have := ih k (by simpa using h)
      rw [Py_cons, show (k + 1) * 3 = k * 3 + 1 + 1 + 1 by omega]
      simpa using this
theorem paC_one (p : Pt) : ∀ u ∈ p.cs, u.oneCell' = true := by
  intro u hu
  simp [Pt.cs, paC, Pt.val] at hu
  rcases hu with rfl | rfl | rfl <;> rfl
/-- The cells of a row of changes. -/
def PcAt (W : World) (ao : Option Addr) (n : Nat) (L : List Pt) : Prop :=
  L.length = n ∧ (0 < n → ∃ a, ao = some a ∧ a.block < W.heap.size ∧ ∀ k, k < n → W.cell? (a.add (k * 3)) = some (.int .i64 (L.getD k noP).id) ∧ W.cell? (a.add (k * 3 + 1)) = some (.int .i64 (L.getD k noP).at') ∧ W.cell? (a.add (k * 3 + 2)) = some (L.getD k noP).val)
/-- Their bytes. -/
def PnAt (W : World) (L : List Pt) : Prop := ∀ p ∈ L, BAt W p.ao p.n p.xs ∧ (p.ao = none → p.n = 0 ∧ p.c = 0) ∧ I64 p.id ∧ I64 p.at' ∧ (∀ x ∈ p.xs, 0 ≤ x ∧ x ≤ 255) ∧ p.n ≤ p.c ∧ p.c ≤ 9223372036854775807
theorem PcAt.only {S : Nat → Prop} {W W' : World} {ao : Option Addr} {n : Nat} {L : List Pt} (h : PcAt W ao n L) (ho : Only S W W') (hS : ∀ a, ao = some a → a.block < W.heap.size → ¬ S a.block) : PcAt W' ao n L := by
  refine ⟨h.1, fun hn => ?_⟩
  obtain ⟨a, e, hlt, hc⟩ := h.2 hn
  refine ⟨a, e, Nat.lt_of_lt_of_le hlt ho.size, fun i hi => ?_⟩
  have hb := ho.block _ hlt (hS a e hlt)
  have e1 : ∀ j, W'.cell? (a.add j) = W.cell? (a.add j) := fun j => World.cell?_of_block (by rw [add_block]; exact hb)
  rw [e1, e1, e1]
  exact hc i hi
theorem PnAt.only {S : Nat → Prop} {W W' : World} {L : List Pt} (h : PnAt W L) (ho : Only S W W') (hS : ∀ p ∈ L, ∀ a, p.ao = some a → a.block < W.heap.size → ¬ S a.block) : PnAt W' L :=
  fun p hp => ⟨(h p hp).1.only ho (hS p hp), (h p hp).2⟩
theorem PcAt.below {W W' : World} {ao : Option Addr} {n : Nat} {L : List Pt} (h : PcAt W ao n L) (hB : Below W.heap.size W W') : PcAt W' ao n L := h.only (Only.of_new (fun _ => False) hB) (fun _ _ _ h => h)
theorem PnAt.below {W W' : World} {L : List Pt} (h : PnAt W L) (hB : Below W.heap.size W W') : PnAt W' L := h.only (Only.of_new (fun _ => False) hB) (fun _ _ _ _ _ h => h)
theorem BAt.below {W W' : World} {ao : Option Addr} {n : Nat} {xs : List Int} (h : BAt W ao n xs) (hB : Below W.heap.size W W') : BAt W' ao n xs := h.only (Only.of_new (fun _ => False) hB) (fun _ _ _ h => h)
theorem LAt.below {W W' : World} {ao : Option Addr} {n : Nat} {xs : List Int} (h : LAt W ao n xs) (hB : Below W.heap.size W W') : LAt W' ao n xs := h.only (Only.of_new (fun _ => False) hB) (fun _ _ _ h => h)
theorem owns_PcAt {w : World} {base : Nat} {v : Value} {n : Nat} {L : List Pt} (h : w.ownsRow base 31 3 v n (Py L)) : ∃ ao c, v = .slice ao n c ∧ PcAt w ao n L ∧ (∀ a, ao = some a → base ≤ a.block ∧ v.ownBlock = some a.block) ∧ n ≤ c ∧ c ≤ 9223372036854775807 := by
  obtain ⟨h1, h2⟩ := h
  rw [Py_length] at h1
  have hl : L.length = n := by omega
  rcases h2 with ⟨rfl, rfl⟩ | ⟨g, cap, cur, rfl, hg, hh, hnc, hm, hsz, ht⟩
  · exact ⟨none, 0, rfl, ⟨hl, fun h => by omega⟩, fun a e => (by cases e), Nat.le_refl _, by omega⟩
  · refine ⟨_, _, rfl, ⟨hl, fun _ => ⟨_, rfl, lt_of_block hh, fun k hk => ?_⟩⟩, fun a e => (by cases e; exact ⟨hg, rfl⟩), hnc, by unfold maxLen at hm; omega⟩
    have get : ∀ j, j < n * 3 → cur[j]? = (Py L)[j]? := fun j hj => by
      rw [← Array.getElem?_toList, ← ht, List.getElem?_take, if_pos hj]
    rw [add_at, add_at, add_at, blk_cell hh, blk_cell hh, blk_cell hh, Nat.zero_add, Nat.zero_add, Nat.zero_add, get _ (by omega), get _ (by omega), get _ (by omega)]
    exact Py_get L k (by omega)
theorem info31 : (Try.prog.info? 31).map (fun i => (i.zero, i.size, i.bytes)) = some (some (paV 0 0 (.slice none 0 0)), 3, 40) := by kernel_rfl
theorem info31p : ∃ i0, Try.prog.info? 31 = some i0 ∧ i0.zero = some (paV 0 0 (.slice none 0 0)) ∧ i0.size = 3 ∧ i0.bytes = 40 := by
  cases h : Try.prog.info? 31 with
  | none => have := info31; rw [h] at this; cases this
  | some i =>
    have h2 := info31
    rw [h] at h2
    simp at h2
    exact ⟨i, rfl, h2.1, h2.2⟩
theorem exec_build31 {ev : Operand → Value} {oi : Oper} {x y z : Operand} {i a : Int} {v : Value} {W : World} (ho : oi.op = .build 31 #[(0, x), (1, y), (2, z)]) (hx : ev x = .int .i64 i) (hy : ev y = .int .i64 a) (hz : ev z = v) (hv : ∃ ao n c, v = .slice ao n c) : (execOp ev oi).run Try.prog W = .ok (.value (paV i a v)) W := by
  obtain ⟨ao, n, c, rfl⟩ := hv
  obtain ⟨i0, hi, hz0, hz1, hz2⟩ := info31p
  unfold execOp
  rw [ho]
  simp [Instr.build, run_underlying Try.underlying31, zeroValue, typeInfo, hi, hz0, paV, Value.cells, Instr.fill, hx, hy, hz]
/-- []api.Patch of one: its cells. -/
theorem exec_one31 {ev : Operand → Value} {oi : Oper} {x : Operand} {i a : Int} {v : Value} {W : World} (ho : oi.op = .buildSlice 23 1 #[(0, x)]) (hx : ev x = paV i a v) (hv : ∃ ao n c, v = .slice ao n c) : (execOp ev oi).run Try.prog W = .ok (.value (.slice (some ⟨W.heap.size, 0, none⟩) 1 1)) (W.alloc (.cells (paC i a v).toArray 31)) := by
  obtain ⟨ao, n, c, rfl⟩ := hv
  obtain ⟨i0, hi, hz0, hz1, hz2⟩ := info31p
  unfold execOp
  rw [ho]
  simp only [hx, List.map_toArray, List.map_cons, List.map_nil]
  simp [Instr.buildSlice, run_underlying Try.underlying23, zeroValue, typeInfo, hi, hz0, hz1, newRow, paV, Value.cells, paC, Instr.fill, sizeOf]
  rw [show Array.range 3 = #[0, 1, 2] from by decide]
  simp
/-- append(l, p). -/
theorem appendp_run (W : World) (B : Nat) (v : Value) (n : Nat) (L : List Pt) (p : Pt) (hown : W.ownsRow B 31 3 v n (Py L)) (hB : B ≤ W.heap.size) (hn : n ≤ 1000000) :
    ∃ v' W', (Builtin.append_ #[23, 23] 23 #[v, .slice (some ⟨W.heap.size, 0, none⟩) 1 1]).run Try.prog (W.alloc (.cells p.cs.toArray 31)) = .ok v' W' ∧ W'.ownsRow B 31 3 v' (n + 1) (Py (L ++ [p])) ∧ (W.alloc (.cells p.cs.toArray 31)).grownBy W' v.ownBlock := by
  obtain ⟨i0, hi, hz0, hz1, hz2⟩ := info31p
  have hnew := blk_new W (.cells p.cs.toArray 31)
  obtain ⟨v3, W3, hr, hown3, hg3, _⟩ := run_append_own (P := Try.prog) (W.alloc (.cells p.cs.toArray 31)) B 23 23 31 i0 (paV 0 0 (.slice none 0 0)) 3 40 Try.underlying23 hi hz0 hz1 hz2 rfl (by decide) v n (Py L) (hown.alloc _) ⟨W.heap.size, 0, none⟩ 1 1 p.cs rfl (fun j u hj => by
    match j, hj with
    | 0, hj => cases hj; rw [add_at, blk_cell hnew]; rfl
    | 1, hj => cases hj; rw [add_at, blk_cell hnew]; rfl
    | 2, hj => cases hj; rw [add_at, blk_cell hnew]; rfl) (paC_one p) (by unfold maxLen; omega) (by omega) (by simp; omega)
  have e : Py L ++ p.cs = Py (L ++ [p]) := by rw [Py_append]; simp [Py]
  rw [e] at hown3
  exact ⟨v3, W3, hr, hown3, hg3⟩
set_option maxHeartbeats 400000 in
theorem clone_any (a : Addr) (n c : Nat) (xs : List Int) (w : World) (hx : xs.length = n) (hbig : n ≤ 140737488355328) (hc : ∀ i, i < n → w.cell? (a.add i) = some (.int .u8 (xs.getD i 0))) :
    Calls Try.prog 21 #[.slice (some a) n c] w fun e w' => ∃ v', e = .returned v' ∧ w'.ownsRow w.heap.size 5 1 v' n (By xs) ∧ v' ≠ .slice none 0 0 ∧ Below w.heap.size w w' := by
  obtain ⟨i0, hi, hz0, hz1, hz2⟩ := info5p
  have q22 : ∀ (w : World) (a : Option Addr) (n c n' c' : Nat), (binOp .eql 22 (.slice a n c) (.slice none n' c')).run Try.prog w = .ok (.bool a.isNone) w := fun w a n c n' c' => Lib.run_eql_slice_nil w _ _ a n c n' c' Try.underlying22
  have A : Hid (∀ i, i < n → w.cell? (a.add i) = some (.int .u8 (xs.getD i 0))) := hc
  clear hc
  go_enter Try.func21, Try.ntmps21
  go_wp2_with (at_builtin; refine wpList_append_own _ rfl _ _ 22 rfl w.heap.size 5 i0 (.int .u8 0) 1 1 Try.underlying22 hi hz0 hz1 hz2 rfl (by decide) _ _ _ rfl (World.ownsRow_made w #[] 0 (Nat.le_refl _) (Nat.zero_le _) rfl) a n c (By xs) rfl ?qc1 ?qc2 ?qc3 ?qc4 ?qc5 ?qc6 ?_)
  case qc1 => simp [By_length]; omega
  case qc2 =>
    intro j u hj
    have hjn : j < n := by
      have := (List.getElem?_eq_some_iff.1 hj).1
      rw [By_length] at this
      omega
    refine Lib.cell?_alloc_some _ ?_
    rw [A.out j hjn]
    rw [By_get xs j (by omega)] at hj
    exact hj
  case qc3 => exact By_one xs
  case qc4 => unfold maxLen; omega
  case qc5 => omega
  case qc6 => simp
  intro v' w1 hown hgrow hnil
  go_wp2
  go_ret
  refine ⟨v', rfl, by simpa using hown, ?_, ?_⟩
  · first | exact hnil | (intro e; exact absurd (hnil.1 e).1 (by simp))
  · exact ((Below.refl _ w).alloc (Nat.le_refl _) _).grown hgrow (by simp) (by intro k hk; simp [Value.ownBlock] at hk; omega)
theorem clone_nil (w : World) : Calls Try.prog 21 #[.slice none 0 0] w fun e w' => e = .returned (.slice none 0 0) ∧ w' = w := by
  have q22 : ∀ (w : World) (a : Option Addr) (n c n' c' : Nat), (binOp .eql 22 (.slice a n c) (.slice none n' c')).run Try.prog w = .ok (.bool a.isNone) w := fun w a n c n' c' => Lib.run_eql_slice_nil w _ _ a n c n' c' Try.underlying22
  go_enter Try.func21, Try.ntmps21
  go_wp2
  go_ret
  exact ⟨rfl, rfl⟩
theorem clone_all (w : World) (ao : Option Addr) (n c : Nat) (xs : List Int) (h : BAt w ao n xs) (hnone : ao = none → n = 0 ∧ c = 0) (hbig : n ≤ 140737488355328) :
    Calls Try.prog 21 #[.slice ao n c] w fun e w' => ∃ v', e = .returned v' ∧ w'.ownsRow w.heap.size 5 1 v' n (By xs) ∧ Below w.heap.size w w' := by
  cases ao with
  | none =>
    obtain ⟨rfl, rfl⟩ := hnone rfl
    obtain rfl : xs = [] := List.eq_nil_of_length_eq_zero h.1
    refine (clone_nil w).mono ?_
    rintro e w' ⟨rfl, rfl⟩
    exact ⟨_, rfl, World.ownsRow_nil _ _ 5 1, Below.refl _ _⟩
  | some a =>
    refine (clone_any a n c xs w h.1 hbig (fun i hi => ?_)).mono ?_
    · obtain ⟨a', e, hc⟩ := h.at i hi
      cases e
      exact hc
    · rintro e w' ⟨v', rfl, h1, _, h2⟩
      exact ⟨v', rfl, h1, h2⟩
end Go.Proofs.Ytjljklfahmjngaa
