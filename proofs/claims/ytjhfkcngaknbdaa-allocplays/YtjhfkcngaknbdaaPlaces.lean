/-
  Where things lie, as functions of numbers.
-/
import Derived.Test.YtjhfkcngaknbdaaTell1
namespace Go.Proofs.Ytjhfkcngaknbdaa
open Go Go.Proofs Go.RowKit Go.Shelf
set_option maxRecDepth 100000 in
theorem divmod_at {n k D : Int} (h1 : k * D ≤ n) (h2 : n < k * D + D) : n / D = k ∧ n % D = n - k * D := by
  have hD : 0 < D := by omega
  have e : n = (n - k * D) + k * D := by omega
  have h3 : (n - k * D) / D = 0 := Int.ediv_eq_zero_of_lt (by omega) (by omega)
  have h4 : (n - k * D) % D = n - k * D := Int.emod_eq_of_lt (by omega) (by omega)
  constructor
  · rw [e, Int.add_mul_ediv_right _ _ (by omega), h3]; omega
  · rw [e, Int.add_mul_emod_self_right, h4]; omega
set_option maxRecDepth 100000 in
/-- The quotient and the rest, taken apart. -/
theorem divmod_of (n D : Int) (hD : 0 < D) : n = n / D * D + n % D ∧ 0 ≤ n % D ∧ n % D < D := by
  have h := Int.mul_ediv_add_emod n D
  have h2 := Int.emod_nonneg n (show D ≠ 0 by omega)
  have h3 := Int.emod_lt_of_pos n hD
  rw [Int.mul_comm] at h
  exact ⟨h.symm, h2, h3⟩
theorem div_lt {n k D : Int} (hD : 0 < D) (h : n < k * D) : n / D < k := Int.ediv_lt_of_lt_mul hD h
theorem div_nonneg {n D : Int} (hD : 0 < D) (h : 0 ≤ n) : 0 ≤ n / D := Int.ediv_nonneg h (by omega)
theorem step_mul (k D : Int) : (k + 1) * D = k * D + D := by rw [Int.add_mul, Int.one_mul]
def daB (G I D n : Int) : Bool := good G I D && (decide (0 ≤ n) && decide (n < G * D))
def daI (G I D n : Int) : Int := if daB G I D n = true then 1 + n / D * (1 + I + D) + 1 + I + n % D else 0
theorem da_yes {G I D n : Int} (hg : good G I D = true) (h0 : 0 ≤ n) (h1 : n < G * D) : daB G I D n = true ∧ daI G I D n = 1 + n / D * (1 + I + D) + 1 + I + n % D := by
  have h : daB G I D n = true := by simp [daB, hg, h0, h1]
  exact ⟨h, if_pos h⟩
set_option maxRecDepth 100000 in
theorem da_no {G I D n : Int} (h : good G I D = false ∨ n < 0 ∨ G * D ≤ n) : daB G I D n = false ∧ daI G I D n = 0 := by
  have h' : daB G I D n = false := by
    rcases h with h | h | h
    · simp [daB, h]
    · simp [daB, show ¬ (0 ≤ n) by omega]
    · simp [daB, show ¬ (n < G * D) by omega]
  exact ⟨h', if_neg (by simp [h'])⟩
set_option maxRecDepth 100000 in
theorem da_at {G I D n k : Int} (hg : good G I D = true) (hk : 0 ≤ k) (hkG : k < G) (h1 : k * D ≤ n) (h2 : n ≤ k * D + D - 1) : daB G I D n = true ∧ daI G I D n = 1 + k * (1 + I + D) + 1 + I + n - k * D := by
  have hb := good_iff.1 hg
  have m1 : 0 ≤ k * D := Int.mul_nonneg hk (by omega)
  have m2 : (k + 1) * D ≤ G * D := Int.mul_le_mul_of_nonneg_right (by omega) (by omega)
  rw [step_mul] at m2
  obtain ⟨a, b⟩ := da_yes hg (n := n) (by omega) (by omega)
  refine ⟨a, ?_⟩
  obtain ⟨e1, e2⟩ := divmod_at h1 (show n < k * D + D by omega)
  rw [b, e1, e2]
  omega
def doB (G I D b : Int) : Bool := good G I D && (decide (1 ≤ b) && decide (b < 1 + G * (1 + I + D)) && decide (1 + I ≤ (b - 1) % (1 + I + D)))
def doI (G I D b : Int) : Int := if doB G I D b = true then (b - 1) / (1 + I + D) * D + ((b - 1) % (1 + I + D) - 1 - I) else 0
theorem do_iff {G I D b : Int} : doB G I D b = true ↔ good G I D = true ∧ 1 ≤ b ∧ b < 1 + G * (1 + I + D) ∧ 1 + I ≤ (b - 1) % (1 + I + D) := by
  simp [doB, and_assoc]
theorem do_yes {G I D b : Int} (h : doB G I D b = true) : doI G I D b = (b - 1) / (1 + I + D) * D + ((b - 1) % (1 + I + D) - 1 - I) := if_pos h
theorem do_no {G I D b : Int} (h : ¬ doB G I D b = true) : doB G I D b = false ∧ doI G I D b = 0 := ⟨by simpa using h, if_neg h⟩
set_option maxRecDepth 100000 in
theorem do_at {G I D b k : Int} (hg : good G I D = true) (hk : 0 ≤ k) (hkG : k < G) (h1 : 1 + k * (1 + I + D) + 1 + I ≤ b) (h2 : b ≤ 1 + k * (1 + I + D) + 1 + I + D - 1) :
    doB G I D b = true ∧ doI G I D b = k * D + b - (1 + k * (1 + I + D) + 1 + I) := by
  have hb := good_iff.1 hg
  have m1 : 0 ≤ k * (1 + I + D) := Int.mul_nonneg hk (by omega)
  have m2 : (k + 1) * (1 + I + D) ≤ G * (1 + I + D) := Int.mul_le_mul_of_nonneg_right (by omega) (by omega)
  rw [step_mul] at m2
  obtain ⟨e1, e2⟩ := divmod_at (n := b - 1) (k := k) (D := 1 + I + D) (by omega) (by omega)
  have h : doB G I D b = true := do_iff.2 ⟨hg, by omega, by omega, by omega⟩
  refine ⟨h, ?_⟩
  rw [do_yes h, e1, e2]
  omega
set_option maxRecDepth 100000 in
/-- Past group k, and in none before: not in k either. -/
theorem do_step {G I D b k : Int} (hk : doB G I D b = true → k ≤ (b - 1) / (1 + I + D)) (hn : ¬ (1 + k * (1 + I + D) + 1 + I ≤ b ∧ b ≤ 1 + k * (1 + I + D) + 1 + I + D - 1)) :
    doB G I D b = true → k + 1 ≤ (b - 1) / (1 + I + D) := by
  intro h
  have h1 := hk h
  obtain ⟨hg, h2, h3, h4⟩ := do_iff.1 h
  have hb := good_iff.1 hg
  by_cases he : (b - 1) / (1 + I + D) = k
  · exfalso
    obtain ⟨e1, e2, e3⟩ := divmod_of (b - 1) (1 + I + D) (by omega)
    rw [he] at e1
    exact hn (by omega)
  · omega
theorem do_end {G I D b : Int} (hk : doB G I D b = true → G ≤ (b - 1) / (1 + I + D)) : ¬ doB G I D b = true := by
  intro h
  have h1 := hk h
  obtain ⟨hg, h2, h3, h4⟩ := do_iff.1 h
  have hb := good_iff.1 hg
  have := div_lt (n := b - 1) (k := G) (D := 1 + I + D) (by omega) (by omega)
  omega
def grB (G I D n : Int) : Bool := good G I D && (decide (1 ≤ n) && decide (n ≤ G * (I * 16)))
def grI (G I D n : Int) : Int := if grB G I D n = true then (n - 1) / (I * 16) else 0
def grN (G I D n : Int) : Int := if grB G I D n = true then (n - 1) % (I * 16) else 0
def iaI (G I D n : Int) : Int := if grB G I D n = true then 1 + (n - 1) / (I * 16) * (1 + I + D) + 1 + (n - 1) % (I * 16) / 16 else 0
def iaO (G I D n : Int) : Int := if grB G I D n = true then (n - 1) % (I * 16) % 16 * 64 else 0
theorem gr_iff {G I D n : Int} : grB G I D n = true ↔ good G I D = true ∧ 1 ≤ n ∧ n ≤ G * (I * 16) := by
  simp [grB]
theorem gr_yes {G I D n : Int} (h : grB G I D n = true) : grI G I D n = (n - 1) / (I * 16) ∧ grN G I D n = (n - 1) % (I * 16) ∧ iaI G I D n = 1 + (n - 1) / (I * 16) * (1 + I + D) + 1 + (n - 1) % (I * 16) / 16 ∧ iaO G I D n = (n - 1) % (I * 16) % 16 * 64 :=
  ⟨if_pos h, if_pos h, if_pos h, if_pos h⟩
theorem gr_no {G I D n : Int} (h : grB G I D n = false) : grI G I D n = 0 ∧ grN G I D n = 0 ∧ iaI G I D n = 0 ∧ iaO G I D n = 0 :=
  ⟨if_neg (by simp [h]), if_neg (by simp [h]), if_neg (by simp [h]), if_neg (by simp [h])⟩
theorem gr_not {G I D n : Int} (h : good G I D = false ∨ n < 1 ∨ G * (I * 16) < n) : grB G I D n = false := by
  rcases h with h | h | h
  · simp [grB, h]
  · simp [grB, show ¬ (1 ≤ n) by omega]
  · simp [grB, show ¬ (n ≤ G * (I * 16)) by omega]
set_option maxRecDepth 100000 in
theorem gr_at {G I D n k : Int} (hg : good G I D = true) (hk : 0 ≤ k) (hkG : k < G) (h1 : 1 + k * (I * 16) ≤ n) (h2 : n ≤ 1 + k * (I * 16) + I * 16 - 1) :
    grB G I D n = true ∧ grI G I D n = k ∧ grN G I D n = n - (1 + k * (I * 16)) := by
  have hb := good_iff.1 hg
  have m1 : 0 ≤ k * (I * 16) := Int.mul_nonneg hk (by omega)
  have m2 : (k + 1) * (I * 16) ≤ G * (I * 16) := Int.mul_le_mul_of_nonneg_right (by omega) (by omega)
  rw [step_mul] at m2
  obtain ⟨e1, e2⟩ := divmod_at (n := n - 1) (k := k) (D := I * 16) (by omega) (by omega)
  have h : grB G I D n = true := gr_iff.2 ⟨hg, by omega, by omega⟩
  obtain ⟨a, b, _, _⟩ := gr_yes h
  exact ⟨h, by rw [a, e1], by rw [b, e2]; omega⟩
set_option maxRecDepth 100000 in
/-- An inode's group and its number there, in their bounds. -/
theorem gr_bounds {G I D n : Int} (h : grB G I D n = true) : good G I D = true ∧ 0 ≤ (n - 1) / (I * 16) ∧ (n - 1) / (I * 16) < G ∧ 0 ≤ (n - 1) % (I * 16) ∧ (n - 1) % (I * 16) < I * 16 ∧ n - 1 = (n - 1) / (I * 16) * (I * 16) + (n - 1) % (I * 16) := by
  obtain ⟨hg, h1, h2⟩ := gr_iff.1 h
  have hb := good_iff.1 hg
  obtain ⟨e1, e2, e3⟩ := divmod_of (n - 1) (I * 16) (by omega)
  exact ⟨hg, div_nonneg (by omega) (by omega), div_lt (by omega) (by omega), e2, e3, e1⟩
end Go.Proofs.Ytjhfkcngaknbdaa
