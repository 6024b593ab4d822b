/-
  A block whose entries are named by their places, and what a byte that is turned does to it: numbers alone.
-/
import Derived.Test.YtpdekpdlmfnndaaBlocksWalk
namespace Go.Proofs.Ytpdekpdlmfnndaa
open Go Go.Proofs Go.RowKit Go.Shelf

/-- A digit as a string. -/
def digS (q : Nat) : ByteArray := ⟨#[UInt8.ofNat (48 + q)]⟩
def nS : ByteArray := ⟨#[110]⟩
/-- The name of entry k. -/
def nameOf (k : Nat) : ByteArray := (nS ++ digS (k / 10)) ++ digS (k % 10)
theorem nm_append (s t : ByteArray) : nm (s ++ t) = nm s ++ nm t := by
  unfold nm
  rw [ByteArray.data_append]
  simp
theorem nm_dig (q : Nat) (h : q < 10) : nm (digS q) = [48 + (q : Int)] := by
  match q, h with
  | 0, _ => rfl
  | 1, _ => rfl
  | 2, _ => rfl
  | 3, _ => rfl
  | 4, _ => rfl
  | 5, _ => rfl
  | 6, _ => rfl
  | 7, _ => rfl
  | 8, _ => rfl
  | 9, _ => rfl
theorem nm_name (k : Nat) (h : k < 100) : nm (nameOf k) = [110, 48 + ((k / 10 : Nat) : Int), 48 + ((k % 10 : Nat) : Int)] := by
  unfold nameOf
  rw [nm_append, nm_append, nm_dig _ (by omega), nm_dig _ (by omega)]
  rfl
theorem name_is (k : Nat) (h : k < 100) (i : Int) (h0 : 1 ≤ i) (h1 : i ≤ 4294967295) : isB i (nm (nameOf k)) = true := by
  rw [isB_some (by omega), nm_name k h, Bool.and_eq_true]
  refine ⟨fitB_iff.2 (by omega), nameB_yes.2 ⟨by simp, by simp, ?_, ?_⟩⟩
  · simp; omega
  · simp; omega

/-- The entries of these numbers. -/
def namedL (l : List Int) (n : Nat) : List (Int × ByteArray) := (List.range n).map (fun j => (l.getD j 0, nameOf j))
theorem namedL_length (l : List Int) (n : Nat) : (namedL l n).length = n := by simp [namedL]
theorem namedL_snoc (l : List Int) (n : Nat) : namedL l (n + 1) = namedL l n ++ [(l.getD n 0, nameOf n)] := by simp [namedL, List.range_succ]
theorem namedL_get (l : List Int) (n k : Nat) (h : k < n) : (namedL l n).getD k noE = (l.getD k 0, nameOf k) := by simp [namedL, List.getD, h]
theorem named_small (l : List Int) (n : Nat) (hn : n ≤ 32) : ∀ e ∈ namedL l n, e.2.size ≤ 1000 := by
  intro e he
  obtain ⟨j, hj, rfl⟩ := List.mem_map.1 he
  have : j < n := by simpa using hj
  show (nameOf j).size ≤ 1000
  rw [← nm_length, nm_name j (by omega)]
  simp
theorem named_ok (l : List Int) (n : Nat) (hn : n ≤ 32) (hl : ∀ j, j < n → 1 ≤ l.getD j 0 ∧ l.getD j 0 ≤ 4294967295) : okB (namedL l n) = true := by
  unfold okB
  rw [namedL_length, decide_eq_true hn, Bool.true_and]
  unfold allB
  rw [List.all_eq_true]
  intro e he
  obtain ⟨j, hj, rfl⟩ := List.mem_map.1 he
  have hj2 : j < n := by simpa using hj
  exact name_is j (by omega) _ (hl j hj2).1 (hl j hj2).2

/-- What stands at place j of the block of these entries: one of them, or a free one. -/
def atE (l : List Int) (n j : Nat) : Int × ByteArray := if j < n then (l.getD j 0, nameOf j) else noE
theorem atE_is (l : List Int) (n j : Nat) (hn : n ≤ 32) (hl : ∀ j, j < n → 1 ≤ l.getD j 0 ∧ l.getD j 0 ≤ 4294967295) : isB (atE l n j).1 (nm (atE l n j).2) = true ∧ (nm (atE l n j).2).length ≤ 3 := by
  unfold atE
  by_cases h : j < n
  · rw [if_pos h]
    refine ⟨name_is j (by omega) _ (hl j h).1 (hl j h).2, ?_⟩
    show (nm (nameOf j)).length ≤ 3
    rw [nm_name j (by omega)]
    simp
  · rw [if_neg h]
    exact ⟨isB_none, by simp [noE, nm, noS]⟩
theorem cat_at (L : List (Int × ByteArray)) (h : allB L = true) (j : Nat) (hj : j < L.length) : ((catL L).drop (32 * j)).take 32 = entL (L.getD j noE).1 (nm (L.getD j noE).2) := by
  induction L generalizing j with
  | nil => simp at hj
  | cons e L ih =>
    have h2 : isB e.1 (nm e.2) = true ∧ allB L = true := by simpa [allB] using h
    have e1 : catL (e :: L) = entL e.1 (nm e.2) ++ catL L := by simp [catL]
    have el := entL_length e.1 (nm e.2) (isB_parts h2.1).2
    rw [e1]
    cases j with
    | zero => rw [Nat.mul_zero, List.drop_zero, List.take_left' el]; rfl
    | succ j =>
      rw [show 32 * (j + 1) = 32 + 32 * j by omega, ← List.drop_drop, List.drop_left' el, ih h2.2 j (by simpa using hj)]
      simp
theorem block_at (l : List Int) (n j : Nat) (hn : n ≤ 32) (hl : ∀ j, j < n → 1 ≤ l.getD j 0 ∧ l.getD j 0 ≤ 4294967295) (hj : j < 32) : blkAt (blockL (namedL l n)) j = entL (atE l n j).1 (nm (atE l n j).2) := by
  have hok := okB_len (named_ok l n hn hl)
  have hcl := catL_length (namedL l n) hok.2
  rw [namedL_length] at hcl
  unfold blkAt blockL atE
  rw [namedL_length]
  by_cases h : j < n
  · rw [if_pos h, List.drop_append_of_le_length (by omega), List.take_append_of_le_length (by rw [List.length_drop]; omega), cat_at _ hok.2 j (by rw [namedL_length]; exact h), namedL_get l n j h]
  · rw [if_neg h, List.drop_append, List.drop_of_length_le (by omega), List.nil_append]
    show _ = entL 0 []
    rw [entL_none]
    simp only [zeros, List.drop_replicate, List.take_replicate]
    congr 1
    omega

/-- An entry's bytes with one behind the name turned are none. -/
theorem spoil {i : Int} {m : List Int} (h : isB i m = true) (hm : m.length ≤ 3) (p : Nat) (hp : 9 ≤ p) (hp2 : p < 32) (y : Int) (hy : y ≠ 0) : rdB ((entL i m).set p y) = false := by
  obtain ⟨g1, g2, g3⟩ := got_ent i m h
  have hlen := entL_length i m (by omega)
  cases hr : rdB ((entL i m).set p y) with
  | false => rfl
  | true =>
    obtain ⟨-, -, -, h4⟩ := rd_parts hr
    have e1 : gotI ((entL i m).set p y) = i := by
      unfold gotI at g1 ⊢
      rw [List.take_set_of_le (by omega)]
      exact g1
    have e3 : ((entL i m).set p y).getD 4 0 = m.length := by
      rw [← g3]
      simp [List.getD, List.getElem?_set_ne (show p ≠ 4 by omega)]
    have e2 : gotL ((entL i m).set p y) = m := by
      unfold gotL
      rw [e3, Int.toNat_natCast]
      have e4 : ((entL i m).drop 5).take m.length = m := by
        have := g2
        unfold gotL at this
        rwa [g3, Int.toNat_natCast] at this
      conv => rhs; rw [← e4]
      apply List.ext_getElem?
      intro q
      by_cases hq : q < m.length
      · rw [List.getElem?_take_of_lt hq, List.getElem?_take_of_lt hq, List.getElem?_drop, List.getElem?_drop, List.getElem?_set_ne (by omega)]
      · rw [List.getElem?_take_eq_none (by omega), List.getElem?_take_eq_none (by omega)]
    rw [e1, e2] at h4
    have h5 : (entL i m).getD p 0 = y := by
      rw [h4]
      simp [List.getD, hlen, hp2]
    have h6 : (entL i m).getD p 0 = 0 := by
      unfold entL
      rw [List.getD, List.getElem?_append_right (by simp [leL_length]; omega)]
      simp only [zeros, List.getElem?_replicate]
      split <;> rfl
    exact absurd (h5.symm.trans h6) hy
theorem entL_zero {i : Int} {m : List Int} (hm : m.length ≤ 3) (p : Nat) (hp : 9 ≤ p) : (entL i m).getD p 0 = 0 := by
  unfold entL
  rw [List.getD, List.getElem?_append_right (by simp [leL_length]; omega)]
  simp only [zeros, List.getElem?_replicate]
  split <;> rfl

theorem blkAt_get (xs : List Int) (q p : Nat) (hp : p < 32) : (blkAt xs q).getD p 0 = xs.getD (32 * q + p) 0 := by
  simp [blkAt, List.getD, hp]
theorem blkAt_set (xs : List Int) (q p j : Nat) (y : Int) (hp : p < 32) : blkAt (xs.set (32 * q + p) y) j = if j = q then (blkAt xs j).set p y else blkAt xs j := by
  by_cases h : j = q
  · subst h
    rw [if_pos rfl]
    unfold blkAt
    apply List.ext_getElem?
    intro r
    by_cases hr : r < 32
    · by_cases hrp : p = r
      · subst hrp
        simp [hr]
        by_cases hlt : 32 * j + p < xs.length
        · rw [List.getElem?_set_self hlt, List.getElem?_set_self (by simp; omega)]
        · rw [List.getElem?_eq_none (by simp; omega), List.getElem?_eq_none (by simp; omega)]
      · rw [List.getElem?_take_of_lt hr, List.getElem?_drop, List.getElem?_set_ne (by omega), List.getElem?_set_ne hrp, List.getElem?_take_of_lt hr, List.getElem?_drop]
    · rw [List.getElem?_eq_none (by simp; omega), List.getElem?_eq_none (by simp; omega)]
  · rw [if_neg h]
    unfold blkAt
    apply List.ext_getElem?
    intro r
    by_cases hr : r < 32
    · rw [List.getElem?_take_of_lt hr, List.getElem?_drop, List.getElem?_set_ne (by omega), List.getElem?_take_of_lt hr, List.getElem?_drop]
    · rw [List.getElem?_take_eq_none (by omega), List.getElem?_take_eq_none (by omega)]

/-- What is told of place j of the block in which byte p of entry q was turned by y. -/
def toldE (l : List Int) (n q j : Nat) (y : Int) : Int × ByteArray := if j ≠ q ∨ y = 0 then atE l n j else noE
theorem told_is (l : List Int) (n q p j : Nat) (y : Int) (hn : n ≤ 32) (hl : ∀ j, j < n → 1 ≤ l.getD j 0 ∧ l.getD j 0 ≤ 4294967295) (hp : 9 ≤ p) (hp2 : p < 32) (hj : j < 32) :
    (rdI (blkAt ((blockL (namedL l n)).set (32 * q + p) y) j), rdS (blkAt ((blockL (namedL l n)).set (32 * q + p) y) j)) = toldE l n q j y := by
  obtain ⟨hi, hm⟩ := atE_is l n j hn hl
  rw [blkAt_set _ _ _ _ _ hp2, block_at l n j hn hl hj]
  unfold toldE
  have hrd := ent_reads hi
  by_cases h : j = q
  · rw [if_pos h]
    by_cases hy : y = 0
    · rw [if_pos (.inr hy)]
      subst hy
      have e0 : (entL (atE l n j).1 (nm (atE l n j).2)).set p 0 = entL (atE l n j).1 (nm (atE l n j).2) := by
        apply List.ext_getElem?
        intro r
        by_cases hr : p = r
        · subst hr
          have hlt : p < (entL (atE l n j).1 (nm (atE l n j).2)).length := by rw [entL_length _ _ (by omega)]; exact hp2
          have hz := entL_zero (i := (atE l n j).1) hm p hp
          rw [List.getD, List.getElem?_eq_getElem hlt] at hz
          rw [List.getElem?_set_self hlt, List.getElem?_eq_getElem hlt]
          simp at hz
          rw [hz]
        · rw [List.getElem?_set_ne hr]
      rw [e0, hrd.1, hrd.2.1]
    · rw [if_neg (by rintro (h' | h'); exact h' h; exact hy h')]
      have hs := rd_no (spoil hi hm p hp hp2 y hy)
      rw [hs.1, hs.2.1]
      rfl
  · rw [if_neg h, if_pos (.inl h), hrd.1, hrd.2.1]
end Go.Proofs.Ytpdekpdlmfnndaa
