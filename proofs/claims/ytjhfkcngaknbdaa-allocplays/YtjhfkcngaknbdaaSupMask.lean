/-
  Rows of bits cut off behind their last bit: the numbers behind heads of groups.
-/
import Derived.Test.YtjhfkcngaknbdaaSupAlive
namespace Go.Proofs.Ytjhfkcngaknbdaa
open Go Go.Proofs Go.RowKit Go.Shelf
namespace Sup
/-- The first N bits of a row, in so many bytes: what is not there is 0. -/
def maskL (xs : List Int) (N size : Nat) : List Int := (List.range size).map (fun i => if i < N / 8 then xs.getD i 0 else if i = N / 8 then xs.getD i 0 % 2 ^ (N % 8) else 0)
/-- The first bytes of a row, in so many bytes. -/
def padL (xs : List Int) (k size : Nat) : List Int := (List.range size).map (fun i => if i < k then xs.getD i 0 else 0)
theorem maskL_length (xs : List Int) (N size : Nat) : (maskL xs N size).length = size := by simp [maskL]
theorem padL_length (xs : List Int) (k size : Nat) : (padL xs k size).length = size := by simp [padL]
theorem maskL_get (xs : List Int) (N size i : Nat) (h : i < size) : (maskL xs N size).getD i 0 = if i < N / 8 then xs.getD i 0 else if i = N / 8 then xs.getD i 0 % 2 ^ (N % 8) else 0 := by
  simp [maskL, List.getD, h]
theorem padL_get (xs : List Int) (k size i : Nat) (h : i < size) : (padL xs k size).getD i 0 = if i < k then xs.getD i 0 else 0 := by
  simp [padL, List.getD, h]
theorem getD_ext (xs ys : List Int) (hl : xs.length = ys.length) (h : ∀ i, i < xs.length → xs.getD i 0 = ys.getD i 0) : xs = ys := by
  apply List.ext_getElem hl
  intro i h1 h2
  have := h i h1
  simpa [List.getD, List.getElem?_eq_getElem h1, List.getElem?_eq_getElem h2] using this
theorem zeros_get (n i : Nat) : (zeros n).getD i 0 = 0 := by
  by_cases h : i < n
  · simp [zeros, List.getD, h]
  · simp [zeros, List.getD, h]
theorem getD_app (xs ys : List Int) (i : Nat) : (xs ++ ys).getD i 0 = if i < xs.length then xs.getD i 0 else ys.getD (i - xs.length) 0 := by
  by_cases h : i < xs.length
  · simp [List.getD, List.getElem?_append_left h, h]
  · simp [List.getD, List.getElem?_append_right (Nat.le_of_not_lt h), h]
set_option maxRecDepth 100000 in
theorem pad_splice (xs : List Int) (k size n m : Nat) (hn : xs.length = n) (hk : k ≤ size) (hm : m = min n k) : splice (zeros size) 0 (xs.take m) = padL xs k size := by
  have hl : (xs.take m).length = m := by simp; omega
  apply getD_ext
  · rw [splice_length _ _ _ (by rw [hl, zeros_length]; omega), zeros_length, padL_length]
  · intro i hi
    rw [splice_length _ _ _ (by rw [hl, zeros_length]; omega), zeros_length] at hi
    rw [padL_get _ _ _ _ hi]
    unfold splice
    rw [List.take_zero, List.nil_append, getD_app, hl]
    by_cases h1 : i < m
    · rw [if_pos h1, if_pos (by omega)]
      simp [List.getD, h1]
    · rw [if_neg h1]
      have : (List.drop (0 + m) (zeros size)).getD (i - m) 0 = 0 := by
        have h := zeros_get size (m + (i - m))
        simpa [List.getD] using h
      rw [this]
      by_cases h2 : i < k
      · rw [if_pos h2]
        simp [List.getD, List.getElem?_eq_none (show xs.length ≤ i by omega)]
      · rw [if_neg h2]
set_option maxRecDepth 100000 in
theorem mask_even (xs : List Int) (N size : Nat) (h : N % 8 = 0) : padL xs (N / 8) size = maskL xs N size := by
  apply getD_ext
  · rw [padL_length, maskL_length]
  · intro i hi
    rw [padL_length] at hi
    rw [padL_get _ _ _ _ hi, maskL_get _ _ _ _ hi, h]
    by_cases h1 : i < N / 8
    · rw [if_pos h1, if_pos h1]
    · rw [if_neg h1, if_neg h1]
      by_cases h2 : i = N / 8
      · rw [if_pos h2]; simp
      · rw [if_neg h2]
set_option maxRecDepth 100000 in
theorem mask_odd (xs : List Int) (N size : Nat) (hs : N / 8 < size) : (padL xs (N / 8 + 1) size).set (N / 8) (xs.getD (N / 8) 0 % 2 ^ (N % 8)) = maskL xs N size := by
  apply getD_ext
  · rw [List.length_set, padL_length, maskL_length]
  · intro i hi
    rw [List.length_set, padL_length] at hi
    rw [maskL_get _ _ _ _ hi]
    by_cases h2 : i = N / 8
    · subst h2
      rw [if_neg (by omega), if_pos rfl]
      simp [List.getD, padL_length, hs]
    · have e : ((padL xs (N / 8 + 1) size).set (N / 8) (xs.getD (N / 8) 0 % 2 ^ (N % 8))).getD i 0 = (padL xs (N / 8 + 1) size).getD i 0 := by
        simp only [List.getD]
        rw [List.getElem?_set_ne (Ne.symm h2)]
      rw [e, padL_get _ _ _ _ hi, if_neg h2]
      by_cases h1 : i < N / 8
      · rw [if_pos h1, if_pos (by omega)]
      · rw [if_neg h1, if_neg (by omega)]
set_option maxRecDepth 100000 in
theorem maskL_bound (xs : List Int) (N size : Nat) (h : ∀ x ∈ xs, 0 ≤ x ∧ x ≤ 255) : ∀ x ∈ maskL xs N size, 0 ≤ x ∧ x ≤ 255 := by
  intro x hx
  obtain ⟨i, _, rfl⟩ := List.mem_map.1 hx
  have hb := getD_bound xs h i
  have hp : (0 : Int) < 2 ^ (N % 8) := Int.pow_pos (by decide)
  split
  · exact hb
  · split
    · refine ⟨Int.emod_nonneg _ (by omega), ?_⟩
      have h1 := Int.emod_lt_of_pos (xs.getD i 0) hp
      rcases Int.lt_or_le (xs.getD i 0) (2 ^ (N % 8)) with h2 | h2
      · rw [Int.emod_eq_of_lt hb.1 h2]; exact hb.2
      · omega
    · omega
theorem padL_bound (xs : List Int) (k size : Nat) (h : ∀ x ∈ xs, 0 ≤ x ∧ x ≤ 255) : ∀ x ∈ padL xs k size, 0 ≤ x ∧ x ≤ 255 := by
  intro x hx
  obtain ⟨i, _, rfl⟩ := List.mem_map.1 hx
  have hb := getD_bound xs h i
  split
  · exact hb
  · omega
theorem zeros_add (a b : Nat) : zeros (a + b) = zeros a ++ zeros b := by simp [zeros]
set_option maxRecDepth 100000 in
theorem maskL_pad (xs : List Int) (N s t : Nat) (h : N ≤ 8 * s) : maskL xs N s ++ zeros t = maskL xs N (s + t) := by
  apply getD_ext
  · simp [maskL_length, zeros_length]
  · intro i hi
    simp only [List.length_append, maskL_length, zeros_length] at hi
    rw [maskL_get _ _ _ _ hi, getD_app, maskL_length]
    by_cases h1 : i < s
    · rw [if_pos h1, maskL_get _ _ _ _ h1]
    · rw [if_neg h1, zeros_get, if_neg (by omega)]
      by_cases h2 : i = N / 8
      · rw [if_pos h2]
        have : N % 8 = 0 := by omega
        rw [this]
        simp
      · rw [if_neg h2]
set_option maxRecDepth 100000 in
/-- What lies behind the bits is nothing to it. -/
theorem maskL_take (xs : List Int) (N size : Nat) : maskL (xs.take size) N size = maskL xs N size := by
  apply getD_ext
  · simp [maskL_length]
  · intro i hi
    rw [maskL_length] at hi
    rw [maskL_get _ _ _ _ hi, maskL_get _ _ _ _ hi]
    have : (xs.take size).getD i 0 = xs.getD i 0 := by simp [List.getD, hi]
    rw [this]
/-! bit by bit -/
set_option maxRecDepth 100000 in
theorem byte_ext (x y : Int) (hx : 0 ≤ x ∧ x ≤ 255) (hy : 0 ≤ y ∧ y ≤ 255) (h : ∀ k, k < 8 → bitB x k = bitB y k) : x = y := by
  have e : x.toNat = y.toNat := by
    apply Nat.eq_of_testBit_eq
    intro k
    by_cases hk : k < 8
    · exact h k hk
    · have h1 : ∀ z : Int, 0 ≤ z ∧ z ≤ 255 → z.toNat.testBit k = false := fun z hz => Nat.testBit_lt_two_pow (Nat.lt_of_lt_of_le (show z.toNat < 2 ^ 8 by omega) (Nat.pow_le_pow_right (by omega) (by omega)))
      rw [h1 x hx, h1 y hy]
  omega
set_option maxRecDepth 100000 in
theorem row_ext (xs ys : List Int) (hl : xs.length = ys.length) (hx : ∀ x ∈ xs, 0 ≤ x ∧ x ≤ 255) (hy : ∀ x ∈ ys, 0 ≤ x ∧ x ≤ 255) (h : ∀ q, q < 8 * xs.length → getN xs q = getN ys q) : xs = ys := by
  apply getD_ext _ _ hl
  intro i hi
  refine byte_ext _ _ (getD_bound xs hx i) (getD_bound ys hy i) (fun k hk => ?_)
  have := h (8 * i + k) (by omega)
  unfold getN at this
  rwa [show (8 * i + k) / 8 = i by omega, show (8 * i + k) % 8 = k by omega] at this
set_option maxRecDepth 100000 in
theorem mod_bit (x : Int) (m k : Nat) (hx : 0 ≤ x) : bitB (x % 2 ^ m) k = (decide (k < m) && bitB x k) := by
  obtain ⟨X, rfl⟩ := Int.eq_ofNat_of_zero_le hx
  unfold bitB
  have e : ((X : Int) % 2 ^ m).toNat = X % 2 ^ m := by
    rw [show ((X : Int) % 2 ^ m) = ((X % 2 ^ m : Nat) : Int) by simp]
    exact Int.toNat_natCast _
  rw [e, Int.toNat_natCast, Nat.testBit_mod_two_pow]
theorem bitB_zero (k : Nat) : bitB 0 k = false := by simp [bitB]
set_option maxRecDepth 100000 in
theorem getN_mask (xs : List Int) (N size q : Nat) (hx : ∀ x ∈ xs, 0 ≤ x ∧ x ≤ 255) (hq : q < 8 * size) : getN (maskL xs N size) q = (decide (q < N) && getN xs q) := by
  unfold getN
  rw [maskL_get _ _ _ _ (by omega)]
  by_cases h1 : q / 8 < N / 8
  · rw [if_pos h1, decide_eq_true (show q < N by omega)]; simp
  · rw [if_neg h1]
    by_cases h2 : q / 8 = N / 8
    · rw [if_pos h2, mod_bit _ _ _ (getD_bound xs hx _).1]
      congr 1
      simp only [decide_eq_decide]
      omega
    · rw [if_neg h2, bitB_zero, decide_eq_false (show ¬ q < N by omega)]; simp
/-- A row that is filled bit by bit. -/
def fillW (xs : List Int) (size : Nat) : Nat → List Int
  | 0 => zeros size
  | k + 1 => withI (fillW xs size k) (k : Int) (getI xs (k : Int))
theorem fillW_length (xs : List Int) (size k : Nat) : (fillW xs size k).length = size := by
  induction k with
  | zero => exact zeros_length _
  | succ k ih => rw [fillW, withI_length, ih]
theorem fillW_bound (xs : List Int) (size k : Nat) : ∀ x ∈ fillW xs size k, 0 ≤ x ∧ x ≤ 255 := by
  induction k with
  | zero => exact zeros_bound _
  | succ k ih => exact withI_bound _ _ _ ih
set_option maxRecDepth 100000 in
theorem getN_fill (xs : List Int) (size k q : Nat) (hk : k ≤ 8 * size) : getN (fillW xs size k) q = (decide (q < k) && getN xs q) := by
  induction k with
  | zero =>
    unfold getN
    rw [fillW, zeros_get, bitB_zero]
    simp
  | succ k ih =>
    rw [fillW, getN_with _ _ _ _ (fillW_bound xs size k), fillW_length, hasI_nat, ih (by omega), getI_nat]
    by_cases h : q = k
    · subst h
      rw [if_pos ⟨by simp; omega, rfl⟩]
      simp
    · rw [if_neg (fun hh => h (by have := hh.2; omega))]
      congr 1
      simp only [decide_eq_decide]
      omega
set_option maxRecDepth 100000 in
theorem fill_mask (xs : List Int) (N size : Nat) (hx : ∀ x ∈ xs, 0 ≤ x ∧ x ≤ 255) (hN : N ≤ 8 * size) : fillW xs size N = maskL xs N size := by
  refine row_ext _ _ (by rw [fillW_length, maskL_length]) (fillW_bound xs size N) (maskL_bound xs N size hx) (fun q hq => ?_)
  rw [fillW_length] at hq
  rw [getN_fill _ _ _ _ hN, getN_mask _ _ _ _ hx hq]
end Sup
end Go.Proofs.Ytjhfkcngaknbdaa
