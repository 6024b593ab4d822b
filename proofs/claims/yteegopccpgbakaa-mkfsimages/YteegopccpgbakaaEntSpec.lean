/-
  What an entry's bytes are, and what bytes are as an entry: numbers alone.
-/
import Derived.Test.YteegopccpgbakaaEntEnt
namespace Go.Proofs.Yteegopccpgbakaa
open Go Go.Proofs Go.RowKit Go.Shelf
namespace Ent
/-- Is it an entry? -/
def isB (i : Int) (l : List Int) : Bool := if i = 0 then decide (l = []) else fitB 4294967295 i && nameB l
/-- The bytes of an entry. -/
def entL (i : Int) (l : List Int) : List Int := ((leL i 4 ++ [(l.length : Int)]) ++ l) ++ zeros (32 - (5 + l.length))
/-- What stands where the number and the name of an entry do. -/
def gotI (xs : List Int) : Int := numL (xs.take 4)
def gotL (xs : List Int) : List Int := (xs.drop 5).take (xs.getD 4 0).toNat
/-- Are they the bytes of an entry? -/
def rdB (xs : List Int) : Bool := decide (xs.length = 32) && (decide (xs.getD 4 0 ≤ 27) && (isB (gotI xs) (gotL xs) && eqB (entL (gotI xs) (gotL xs)) xs))
def rdI (xs : List Int) : Int := if rdB xs = true then gotI xs else 0
def rdS (xs : List Int) : ByteArray := if rdB xs = true then strOfNums (gotL xs) else noS
def rdE (xs : List Int) : Int := if rdB xs = true then 0 else 5
theorem isB_zero (l : List Int) : isB 0 l = decide (l = []) := by simp [isB]
theorem isB_some {i : Int} (h : i ≠ 0) (l : List Int) : isB i l = (fitB 4294967295 i && nameB l) := by simp [isB, h]
theorem isB_parts {i : Int} {l : List Int} (h : isB i l = true) : (0 ≤ i ∧ i ≤ 4294967295) ∧ l.length ≤ 27 := by
  by_cases h0 : i = 0
  · subst h0
    rw [isB_zero] at h
    have : l = [] := by simpa using h
    subst this
    simp
  · rw [isB_some h0, Bool.and_eq_true] at h
    exact ⟨fitB_iff.1 h.1, (nameB_yes.1 h.2).2.1⟩
theorem entL_length (i : Int) (l : List Int) (h : l.length ≤ 27) : (entL i l).length = 32 := by
  simp [entL, leL_length, zeros_length]
  omega
theorem entL_bound (i : Int) (l : List Int) (h : l.length ≤ 27) (hl : ∀ x ∈ l, 0 ≤ x ∧ x ≤ 255) : ∀ x ∈ entL i l, 0 ≤ x ∧ x ≤ 255 := by
  intro x hx
  unfold entL at hx
  simp only [List.mem_append, List.mem_singleton] at hx
  rcases hx with ((hx | hx) | hx) | hx
  · exact leL_bound _ _ _ hx
  · omega
  · exact hl x hx
  · exact zeros_bound _ _ hx
theorem entL_none : entL 0 [] = zeros 32 := by decide +kernel
theorem numL_leL (n : Int) (h0 : 0 ≤ n) (h1 : n < 4294967296) : numL (leL n 4) = n := by
  have e : leL n 4 = [n % 256, n / 256 % 256, n / 65536 % 256, n / 16777216 % 256] := by
    simp [leL, List.range_succ]
  rw [e]
  simp only [numL]
  omega
/-- How the program puts them together. -/
theorem put_len (i : Int) (y : Int) : (splice (zeros 32) 0 (leLs 4 [i])).set 4 y = (leL i 4 ++ [y]) ++ zeros 27 := by
  have e : leLs 4 [i] = leL i 4 := by simp [leLs]
  have h := splice_snoc (zeros 32) 0 (leL i 4) y (by simp [leL_length, zeros_length])
  rw [leL_length] at h
  have h2 := splice_zero 32 [] (leL i 4 ++ [y]) 0 rfl (by simp [leL_length])
  rw [e]
  simp only [Nat.zero_add] at h
  rw [h]
  simpa [leL_length] using h2
theorem put_name (i : Int) (l : List Int) (h : l.length ≤ 27) : splice ((leL i 4 ++ [(l.length : Int)]) ++ zeros 27) 5 l = entL i l := by
  exact splice_zero 32 (leL i 4 ++ [(l.length : Int)]) l 5 (by simp [leL_length]) (by omega)
theorem got_ent (i : Int) (l : List Int) (h : isB i l = true) : gotI (entL i l) = i ∧ gotL (entL i l) = l ∧ (entL i l).getD 4 0 = l.length := by
  obtain ⟨hi, hl⟩ := isB_parts h
  have e4 : (leL i 4).length = 4 := leL_length _ _
  have e5 : (leL i 4 ++ [(l.length : Int)]).length = 5 := by simp [e4]
  have g4 : (entL i l).getD 4 0 = l.length := by
    unfold entL
    rw [List.append_assoc, List.append_assoc, List.getD, List.getElem?_append_right (by omega), e4]
    simp
  refine ⟨?_, ?_, g4⟩
  · unfold gotI entL
    rw [List.append_assoc, List.append_assoc, List.take_left' e4]
    exact numL_leL i hi.1 (by omega)
  · unfold gotL
    rw [g4]
    unfold entL
    rw [List.append_assoc (leL i 4 ++ [(l.length : Int)]), List.drop_left' e5, Int.toNat_natCast, List.take_left' rfl]
theorem ent_rd {i : Int} {l : List Int} (h : isB i l = true) : rdB (entL i l) = true := by
  obtain ⟨h1, h2, h3⟩ := got_ent i l h
  obtain ⟨hi, hl⟩ := isB_parts h
  unfold rdB
  rw [h1, h2, h3, h, entL_length i l hl]
  simp [eqB]
  omega
theorem ent_reads {i : Int} {s : ByteArray} (h : isB i (nm s) = true) : rdI (entL i (nm s)) = i ∧ rdS (entL i (nm s)) = s ∧ rdE (entL i (nm s)) = 0 := by
  obtain ⟨h1, h2, h3⟩ := got_ent i (nm s) h
  unfold rdI rdS rdE
  rw [ent_rd h, h1, h2]
  simp [str_nm]
theorem rd_parts {xs : List Int} (h : rdB xs = true) : xs.length = 32 ∧ xs.getD 4 0 ≤ 27 ∧ isB (gotI xs) (gotL xs) = true ∧ entL (gotI xs) (gotL xs) = xs := by
  unfold rdB at h
  simpa [eqB] using h
theorem got_bound (xs : List Int) (h : ∀ x ∈ xs, 0 ≤ x ∧ x ≤ 255) : ∀ x ∈ gotL xs, 0 ≤ x ∧ x ≤ 255 := take_bound _ (drop_bound _ h _) _
theorem isB_none : isB 0 [] = true := by decide
/-- What Read tells is an entry. -/
theorem rd_is (xs : List Int) (h : ∀ x ∈ xs, 0 ≤ x ∧ x ≤ 255) : isB (rdI xs) (nm (rdS xs)) = true := by
  unfold rdI rdS
  by_cases hr : rdB xs = true
  · rw [if_pos hr, if_pos hr, nm_str _ (got_bound xs h)]
    exact (rd_parts hr).2.2.1
  · rw [if_neg hr, if_neg hr]
    exact isB_none
end Ent
end Go.Proofs.Yteegopccpgbakaa
