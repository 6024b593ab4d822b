/-
  Numbers as bytes: width and get of the program; num, put, fits and fill of the reference.
-/
import Derived.Test.YtbahbhaoimabdaaMem
namespace Go.Proofs.Ytbahbhaoimabdaa
open Go Go.Proofs Go.RowKit Go.Shelf
theorem take_snoc (xs : List Int) (k : Nat) (h : k < xs.length) : xs.take (k + 1) = xs.take k ++ [xs.getD k 0] := by
  rw [List.take_succ_eq_append_getElem h]
  simp [List.getD, List.getElem?_eq_getElem h]
/-- A number in so many bytes, the lowest first. -/
def leL (n : Int) (k : Nat) : List Int := (List.range k).map (fun i => n / 256 ^ i % 256)
theorem leL_length (n : Int) (k : Nat) : (leL n k).length = k := by simp [leL]
theorem leL_succ (n : Int) (k : Nat) : leL n (k + 1) = leL n k ++ [n / 256 ^ k % 256] := by simp [leL, List.range_succ]
theorem leL_bound (n : Int) (k : Nat) : ∀ x ∈ leL n k, 0 ≤ x ∧ x ≤ 255 := by
  intro x hx
  obtain ⟨i, _, rfl⟩ := List.mem_map.1 hx
  omega
theorem splice_length {α : Type} (cur : List α) (o : Nat) (ys : List α) (h : o + ys.length ≤ cur.length) : (splice cur o ys).length = cur.length := by
  simp [splice]; omega
set_option maxRecDepth 100000 in
theorem splice_snoc (cur : List Int) (o : Nat) (ys : List Int) (y : Int) (h : o + ys.length < cur.length) : (splice cur o ys).set (o + ys.length) y = splice cur o (ys ++ [y]) := by
  unfold splice
  have h1 : (List.take o cur).length = o := by simp; omega
  rw [List.set_append_right _ _ (by simp; omega), h1, Nat.add_sub_cancel_left, List.set_append_right _ _ (by omega), Nat.sub_self, List.drop_eq_getElem_cons h]
  simp [Nat.add_assoc]
theorem By_setArr (xs : List Int) (i : Nat) (y : Int) : (By xs).toArray.setIfInBounds i (.int .u8 y) = (By (xs.set i y)).toArray := by
  simp [By]
/-- The number of bytes, the lowest first. -/
def numL : List Int → Int
  | [] => 0
  | x :: r => x + 256 * numL r
set_option maxRecDepth 100000 in
theorem numL_snoc (xs : List Int) (x : Int) : numL (xs ++ [x]) = numL xs + 256 ^ xs.length * x := by
  induction xs with
  | nil => simp [numL]
  | cons y r ih =>
    simp only [List.cons_append, numL, ih, List.length_cons, Int.pow_succ]
    rw [Int.mul_add, Int.mul_comm (256 ^ r.length) 256, Int.mul_assoc, Int.add_assoc]
set_option maxRecDepth 100000 in
theorem numL_bound (xs : List Int) (h : ∀ x ∈ xs, 0 ≤ x ∧ x ≤ 255) : 0 ≤ numL xs ∧ numL xs < 256 ^ xs.length := by
  induction xs with
  | nil => simp [numL]
  | cons x r ih =>
    have h1 := h x (by simp)
    have h2 := ih (fun y hy => h y (by simp [hy]))
    simp only [numL, List.length_cons, Int.pow_succ]
    omega
theorem numL_drop (ys : List Int) (j : Nat) (h : j < ys.length) : numL (ys.drop j) = ys.getD j 0 + 256 * numL (ys.drop (j + 1)) := by
  rw [List.drop_eq_getElem_cons h]
  simp [numL, List.getD, List.getElem?_eq_getElem h]
theorem pow_small (k : Nat) (h : k ≤ 3) : (256 : Int) ^ k ≤ 16777216 := by
  match k, h with
  | 0, _ => decide
  | 1, _ => decide
  | 2, _ => decide
  | 3, _ => decide
set_option maxRecDepth 100000 in
theorem join32 (y x : Int) (k : Nat) (hk : k < 4) (hy : 0 ≤ y ∧ y < 256 ^ k) (hx : 0 ≤ x ∧ x ≤ 255) : bits BinOp.or IntKind.u32 y (x * 2 ^ (8 * k) % 4294967296) = y + 256 ^ k * x := by
  have e : (2 : Int) ^ (8 * k) = 256 ^ k := by rw [Int.pow_mul]; rfl
  have hp := pow_small k (by omega)
  have hp0 : (0 : Int) ≤ 256 ^ k := Int.pow_nonneg (by decide)
  have hm : 0 ≤ x * 256 ^ k ∧ x * 256 ^ k ≤ 255 * 16777216 := mul_fits hx.1 hx.2 hp0 hp
  rw [e, Int.emod_eq_of_lt hm.1 (by omega)]
  obtain ⟨X, rfl⟩ := Int.eq_ofNat_of_zero_le hx.1
  obtain ⟨Y, rfl⟩ := Int.eq_ofNat_of_zero_le hy.1
  have e2 : (X : Int) * 256 ^ k = ((X * 2 ^ (8 * k) : Nat) : Int) := by rw [← e]; simp
  have hY : Y < 2 ^ (8 * k) := by
    have := hy.2
    rw [← e] at this
    exact_mod_cast this
  have hYb : (Y : Int) < 4294967296 := by omega
  have hZb : ((X * 2 ^ (8 * k) : Nat) : Int) < 4294967296 := by rw [← e2]; omega
  rw [Int.mul_comm (256 ^ k), e2, u32_or_nat _ _ (by omega) (by omega), Nat.or_comm, nat_join (8 * k) _ _ (Nat.mul_mod_left _ _) hY]
  omega
set_option maxRecDepth 100000 in
theorem join64 (y x : Int) (hy : 0 ≤ y) (hy2 : y < 16777216) (hx : 0 ≤ x ∧ x ≤ 255) : bits BinOp.or IntKind.i64 (y * 256) x = x + 256 * y := by
  obtain ⟨X, rfl⟩ := Int.eq_ofNat_of_zero_le hx.1
  obtain ⟨Y, rfl⟩ := Int.eq_ofNat_of_zero_le hy
  rw [show (Y : Int) * 256 = ((Y * 256 : Nat) : Int) by simp]
  show IntKind.i64.wrap ((BitVec.ofInt 64 ((Y * 256 : Nat) : Int) ||| BitVec.ofInt 64 (X : Int)).toNat : Int) = _
  rw [BitVec.toNat_or, ofInt_u64 _ (by omega), ofInt_u64 X (by omega), nat_join 8 _ _ (by omega) (by omega), IntKind.wrap_i64]
  omega
set_option maxRecDepth 100000 in
/-- x & 255. -/
theorem low64 (x : Int) (h0 : 0 ≤ x) (h1 : x < 4294967296) : bits BinOp.and IntKind.i64 x 255 = x % 256 := by
  obtain ⟨X, rfl⟩ := Int.eq_ofNat_of_zero_le h0
  show IntKind.i64.wrap ((BitVec.ofInt 64 (X : Int) &&& BitVec.ofInt 64 ((255 : Nat) : Int)).toNat : Int) = _
  rw [BitVec.toNat_and, ofInt_u64 X (by omega), ofInt_u64 255 (by omega), nat_mask8, IntKind.wrap_i64]
  omega
theorem pow_tiny (k : Nat) (h : k ≤ 1) : (256 : Int) ^ k ≤ 256 := by
  match k, h with
  | 0, _ => decide
  | 1, _ => decide
set_option maxRecDepth 100000 in
theorem join16 (y x : Int) (k : Nat) (hk : k < 2) (hy : 0 ≤ y ∧ y < 256 ^ k) (hx : 0 ≤ x ∧ x ≤ 255) : bits BinOp.or IntKind.u16 y (x * 2 ^ (8 * k) % 65536) = y + 256 ^ k * x := by
  have e : (2 : Int) ^ (8 * k) = 256 ^ k := by rw [Int.pow_mul]; rfl
  have hp := pow_tiny k (by omega)
  have hp0 : (0 : Int) ≤ 256 ^ k := Int.pow_nonneg (by decide)
  have hm : 0 ≤ x * 256 ^ k ∧ x * 256 ^ k ≤ 255 * 256 := mul_fits hx.1 hx.2 hp0 hp
  rw [e, Int.emod_eq_of_lt hm.1 (by omega)]
  obtain ⟨X, rfl⟩ := Int.eq_ofNat_of_zero_le hx.1
  obtain ⟨Y, rfl⟩ := Int.eq_ofNat_of_zero_le hy.1
  have e2 : (X : Int) * 256 ^ k = ((X * 2 ^ (8 * k) : Nat) : Int) := by rw [← e]; simp
  have hY : Y < 2 ^ (8 * k) := by
    have := hy.2
    rw [← e] at this
    exact_mod_cast this
  have hYb : (Y : Int) < 65536 := by omega
  have hZb : ((X * 2 ^ (8 * k) : Nat) : Int) < 65536 := by rw [← e2]; omega
  rw [Int.mul_comm (256 ^ k), e2, u16_or_nat _ _ (by omega) (by omega), Nat.or_comm, nat_join (8 * k) _ _ (Nat.mul_mod_left _ _) hY]
  omega
/-- Is a number from 0 to m? -/
def fitB (m x : Int) : Bool := decide (0 ≤ x ∧ x ≤ m)
theorem fitB_iff {m x : Int} : fitB m x = true ↔ 0 ≤ x ∧ x ≤ m := by simp [fitB]
theorem fitB_no {m x : Int} : fitB m x = false ↔ x < 0 ∨ m < x := by simp [fitB]; omega
end Go.Proofs.Ytbahbhaoimabdaa
