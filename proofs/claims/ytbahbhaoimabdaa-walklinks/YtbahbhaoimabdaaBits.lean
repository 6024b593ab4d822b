/-
  Bits of bytes: the numbers behind get, with, count and first.
-/
import Derived.Test.YtbahbhaoimabdaaBase
import Derived.Test.YtbahbhaoimabdaaProg
import Derived.Test.YtbahbhaoimabdaaChecked
import Derived.OpenShut
namespace Go.Proofs.Ytbahbhaoimabdaa
open Go Go.Proofs Go.RowKit
/-- Bit k of a byte. -/
def bitB (x : Int) (k : Nat) : Bool := x.toNat.testBit k
/-- Bit q of a row of bytes: none is 0. -/
def getN (xs : List Int) (q : Nat) : Bool := bitB (xs.getD (q / 8) 0) (q % 8)
def getI (xs : List Int) (i : Int) : Bool := decide (0 ≤ i) && getN xs i.toNat
/-- 1 << k as a byte. -/
def maskN (q : Nat) : Int := ((2 ^ (q % 8) : Nat) : Int)
theorem getN_none (xs : List Int) (q : Nat) (h : xs.length ≤ q / 8) : getN xs q = false := by
  unfold getN bitB
  simp [List.getD, List.getElem?_eq_none h]
set_option maxRecDepth 100000 in
theorem maskN_bound (q : Nat) : 0 ≤ maskN q ∧ maskN q ≤ 128 := by
  unfold maskN
  have h : q % 8 < 8 := Nat.mod_lt _ (by omega)
  generalize q % 8 = k at *
  match k, h with
  | 0, _ => decide
  | 1, _ => decide
  | 2, _ => decide
  | 3, _ => decide
  | 4, _ => decide
  | 5, _ => decide
  | 6, _ => decide
  | 7, _ => decide
theorem and_mask (X : Fin 256) (k : Fin 8) : ((X.1 &&& 2 ^ k.1) != 0) = X.1.testBit k.1 := by revert X k; decide +kernel
theorem shr_one (X : Fin 256) (k : Fin 8) : (((X.1 / 2 ^ k.1) &&& 1) == 1) = X.1.testBit k.1 := by revert X k; decide +kernel
theorem set_bit_on (X : Fin 256) (k j : Fin 8) : ((X.1 &&& (255 - 2 ^ k.1)) ||| 2 ^ k.1).testBit j.1 = (decide (j = k) || X.1.testBit j.1) := by revert X k j; decide +kernel
theorem set_bit_off (X : Fin 256) (k j : Fin 8) : (X.1 &&& (255 - 2 ^ k.1)).testBit j.1 = (!decide (j = k) && X.1.testBit j.1) := by revert X k j; decide +kernel
theorem mask_nat (q : Nat) : (maskN q).toNat = 2 ^ (q % 8) := by unfold maskN; exact Int.toNat_natCast _
set_option maxRecDepth 100000 in
theorem u8_mask (x : Int) (q : Nat) (hx : 0 ≤ x ∧ x ≤ 255) : (bits BinOp.and IntKind.u8 x (maskN q) != 0) = bitB x (q % 8) := by
  have hm := maskN_bound q
  rw [u8_and x (maskN q) hx.1 (by omega) hm.1 (by omega), mask_nat]
  have h := and_mask ⟨x.toNat, by omega⟩ ⟨q % 8, by omega⟩
  unfold bitB
  rw [← h]
  dsimp only
  generalize x.toNat &&& 2 ^ (q % 8) = z
  cases z <;> simp <;> omega
set_option maxRecDepth 100000 in
theorem u8_shr (x : Int) (k : Nat) (hk : k < 8) (hx : 0 ≤ x ∧ x ≤ 255) : (bits BinOp.and IntKind.u8 (x / 2 ^ k) 1 == 1) = bitB x k := by
  obtain ⟨X, rfl⟩ := Int.eq_ofNat_of_zero_le hx.1
  have e : (X : Int) / 2 ^ k = ((X / 2 ^ k : Nat) : Int) := by simp
  have hl : X / 2 ^ k ≤ X := Nat.div_le_self _ _
  rw [e, show (1 : Int) = ((1 : Nat) : Int) from rfl, u8_and_nat _ _ (by omega) (by omega)]
  have h := shr_one ⟨X, by omega⟩ ⟨k, hk⟩
  unfold bitB
  simp only [Int.toNat_natCast]
  rw [← h]
  dsimp only
  generalize X / 2 ^ k &&& 1 = z
  rcases Nat.lt_trichotomy z 1 with h | h | h
  · obtain rfl : z = 0 := by omega
    rfl
  · subst h; rfl
  · have h1 : ((z : Int) == 1) = false := by simp; omega
    have h2 : (z == 1) = false := by simp; omega
    rw [h2]
    exact h1
/-- A byte with a bit turned. -/
def setB (x : Int) (q : Nat) (on : Bool) : Int := if on = true then bits BinOp.or IntKind.u8 (bits BinOp.andNot IntKind.u8 x (maskN q)) (maskN q) else bits BinOp.andNot IntKind.u8 x (maskN q)
theorem setB_bound (x : Int) (q : Nat) (on : Bool) : 0 ≤ setB x q on ∧ setB x q on ≤ 255 := by
  unfold setB
  split
  · exact bounds_u8 (wf_bits _ _ _ _)
  · exact bounds_u8 (wf_bits _ _ _ _)
set_option maxRecDepth 100000 in
theorem setB_bit (x : Int) (q j : Nat) (on : Bool) (hx : 0 ≤ x ∧ x ≤ 255) (hj : j < 8) : bitB (setB x q on) j = if j = q % 8 then on else bitB x j := by
  have hm := maskN_bound q
  have ha : bits BinOp.andNot IntKind.u8 x (maskN q) = ((x.toNat &&& (255 - 2 ^ (q % 8)) : Nat) : Int) := by
    rw [u8_andNot x (maskN q) hx.1 (by omega) hm.1 (by omega), mask_nat]
  have hl : x.toNat &&& (255 - 2 ^ (q % 8)) ≤ x.toNat := Nat.and_le_left
  unfold setB
  cases on with
  | true =>
    have h := set_bit_on ⟨x.toNat, by omega⟩ ⟨q % 8, by omega⟩ ⟨j, hj⟩
    rw [if_pos rfl, ha, u8_or _ (maskN q) (by omega) (by omega) hm.1 (by omega), mask_nat]
    unfold bitB
    simp only [Int.toNat_natCast]
    dsimp only at h
    rw [h]
    by_cases e : j = q % 8 <;> simp [e]
  | false =>
    have h := set_bit_off ⟨x.toNat, by omega⟩ ⟨q % 8, by omega⟩ ⟨j, hj⟩
    rw [if_neg (by simp), ha]
    unfold bitB
    simp only [Int.toNat_natCast]
    dsimp only at h
    rw [h]
    by_cases e : j = q % 8 <;> simp [e]
/-- It fits an int. -/
def I64 (i : Int) : Prop := -9223372036854775808 ≤ i ∧ i ≤ 9223372036854775807
/-- Is there a bit i in n bytes? -/
def hasI (n : Nat) (i : Int) : Bool := decide (0 ≤ i) && decide (i.toNat / 8 < n)
theorem hasI_nat (n q : Nat) : hasI n (q : Int) = decide (q / 8 < n) := by simp [hasI]
theorem hasI_neg (n : Nat) (i : Int) (h : i < 0) : hasI n i = false := by simp [hasI]; omega
theorem getI_nat (xs : List Int) (q : Nat) : getI xs (q : Int) = getN xs q := by simp [getI]
theorem getI_no (xs : List Int) (i : Int) (h : hasI xs.length i = false) : getI xs i = false := by
  unfold hasI at h
  unfold getI
  by_cases h0 : 0 ≤ i
  · simp [h0] at h ⊢
    exact getN_none _ _ h
  · simp [h0]
/-- A row with a bit turned. -/
def withI (xs : List Int) (i : Int) (on : Bool) : List Int := if hasI xs.length i = true then xs.set (i.toNat / 8) (setB (xs.getD (i.toNat / 8) 0) i.toNat on) else xs
theorem withI_length (xs : List Int) (i : Int) (on : Bool) : (withI xs i on).length = xs.length := by
  unfold withI; split <;> simp
theorem withI_bound (xs : List Int) (i : Int) (on : Bool) (h : ∀ x ∈ xs, 0 ≤ x ∧ x ≤ 255) : ∀ x ∈ withI xs i on, 0 ≤ x ∧ x ≤ 255 := by
  unfold withI
  split
  · intro x hx
    rcases List.mem_or_eq_of_mem_set hx with h' | h'
    · exact h x h'
    · rw [h']; exact setB_bound _ _ _
  · exact h
theorem getD_bound (xs : List Int) (h : ∀ x ∈ xs, 0 ≤ x ∧ x ≤ 255) (i : Nat) : 0 ≤ xs.getD i 0 ∧ xs.getD i 0 ≤ 255 := by
  by_cases hi : i < xs.length
  · rw [List.getD, List.getElem?_eq_getElem hi]
    exact h _ (List.getElem_mem hi)
  · rw [List.getD, List.getElem?_eq_none (by omega)]
    simp
set_option maxRecDepth 100000 in
/-- What the bits of a row with a bit turned are. -/
theorem getN_with (xs : List Int) (i : Int) (on : Bool) (q : Nat) (h : ∀ x ∈ xs, 0 ≤ x ∧ x ≤ 255) : getN (withI xs i on) q = if hasI xs.length i = true ∧ (q : Int) = i then on else getN xs q := by
  unfold withI
  cases hh : hasI xs.length i with
  | false => simp
  | true =>
    unfold hasI at hh
    simp at hh
    obtain ⟨k, rfl⟩ : ∃ k : Nat, i = k := ⟨i.toNat, by omega⟩
    simp only [Int.toNat_natCast] at hh ⊢
    rw [if_pos trivial]
    unfold getN
    by_cases e8 : q / 8 = k / 8
    · have e1 : (xs.set (k / 8) (setB (xs.getD (k / 8) 0) k on)).getD (q / 8) 0 = setB (xs.getD (k / 8) 0) k on := by
        rw [e8]
        simp [List.getD, hh.2]
      rw [e1, setB_bit _ _ _ _ (getD_bound xs h _) (by omega), e8]
      have e3 : (q % 8 = k % 8) ↔ ((q : Int) = k) := by omega
      by_cases e2 : q % 8 = k % 8
      · rw [if_pos e2, if_pos ⟨trivial, e3.1 e2⟩]
      · rw [if_neg e2, if_neg (fun h => e2 (e3.2 h.2))]
    · rw [if_neg (fun h => e8 (by omega))]
      have e1 : (xs.set (k / 8) (setB (xs.getD (k / 8) 0) k on)).getD (q / 8) 0 = xs.getD (q / 8) 0 := by
        simp [List.getD, List.getElem?_set_ne (Ne.symm e8)]
      rw [e1]
/-- How many of the first e bits are 1. -/
def cntN (xs : List Int) (e : Nat) : Nat := (List.range e).countP (getN xs)
/-- The first bit that is 0, from f on and below e. -/
def fstN (xs : List Int) (e f : Nat) : Option Nat := (List.range' f (e - f)).find? (fun q => !getN xs q)
/-- A number of bits, at most those that there are. -/
def bndI (xs : List Int) (n : Int) : Nat := min n.toNat (8 * xs.length)
def fstV (r : Option Nat) : Value := match r with
  | some q => .tuple #[.int .i64 q, .bool true]
  | none => .tuple #[.int .i64 0, .bool false]
end Go.Proofs.Ytbahbhaoimabdaa
