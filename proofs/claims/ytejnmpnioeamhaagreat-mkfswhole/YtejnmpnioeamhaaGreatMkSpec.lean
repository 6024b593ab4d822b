/-
  The empty file system's bytes: numbers alone.
-/
import Derived.Test.YtejnmpnioeamhaaGreatLaySupB
import Derived.Test.YtejnmpnioeamhaaGreatLayDin
import Derived.Test.YtejnmpnioeamhaaGreatLayEnt
namespace Go.Proofs.YtejnmpnioeamhaaGreat
open Go Go.Proofs Go.RowKit Go.Shelf
namespace Mk
open Sup (superL headL maskL nI nD)
open Din (inoL fineL inoV)
open Ent (blockL okB)
/-- The blocks of a group. -/
def perN (I D : Int) : Nat := (1 + I + D).toNat
/-- All blocks. -/
def totN (G I D : Int) : Nat := 1 + G.toNat * perN I D
/-- The bits that are on in a group. -/
def onL (k : Nat) : List Int := if k = 0 then [1] else []
/-- The superblock and the first k groups. -/
def refL (G I D : Int) : Nat → List Int
  | 0 => superL G I D
  | k + 1 => (refL G I D k ++ headL k I D (onL k) (onL k)) ++ zeros ((I + D).toNat * 1024)
/-- The root as an inode. -/
def rootL (I : Int) : List Int := [2, 2, 1024, 2 + I, 0, 0, 0, 0, 0, 0, 0, 0, 0]
/-- The names in the root. -/
def dotsL : List (Int × ByteArray) := [(1, ⟨#[46]⟩), (1, ⟨#[46, 46]⟩)]
/-- The whole image. -/
def imgL (G I D : Int) : List Int := splice (splice (refL G I D G.toNat) 2048 (inoL (rootL I))) ((2 + I).toNat * 1024) (blockL dotsL)
theorem onL_bound (k : Nat) : ∀ x ∈ onL k, 0 ≤ x ∧ x ≤ 255 := by
  unfold onL
  split <;> simp
theorem splice_length (xs ys : List Int) (o : Nat) (h : o + ys.length ≤ xs.length) : (splice xs o ys).length = xs.length := by
  unfold splice
  simp
  omega
theorem splice_bound (xs ys : List Int) (o : Nat) (hx : ∀ x ∈ xs, 0 ≤ x ∧ x ≤ 255) (hy : ∀ x ∈ ys, 0 ≤ x ∧ x ≤ 255) : ∀ x ∈ splice xs o ys, 0 ≤ x ∧ x ≤ 255 := by
  intro x h
  unfold splice at h
  simp only [List.mem_append] at h
  rcases h with h | h | h
  · exact hx x (List.mem_of_mem_take h)
  · exact hy x h
  · exact hx x (List.mem_of_mem_drop h)
theorem refL_length (G I D : Int) (hI : 0 ≤ I) (hD : 0 ≤ D) (k : Nat) : (refL G I D k).length = (1 + k * perN I D) * 1024 := by
  induction k with
  | zero => simp [refL, Sup.superL_length]
  | succ k ih =>
    have e : perN I D = 1 + (I + D).toNat := by unfold perN; omega
    simp only [refL, List.length_append, ih, Sup.headL_length, zeros_length]
    rw [Nat.succ_mul, e]
    omega
/-- One head more. -/
theorem head_step (G I D : Int) (hI : 0 ≤ I) (hD : 0 ≤ D) (k m : Nat) (hm : m = (1 + k * perN I D) * 1024) (n : Nat) (hn : (1 + (k + 1) * perN I D) * 1024 ≤ n) :
    splice (refL G I D k ++ zeros (n - m)) m (headL k I D (onL k) (onL k)) = refL G I D (k + 1) ++ zeros (n - (1 + (k + 1) * perN I D) * 1024) := by
  have e : perN I D = 1 + (I + D).toNat := by unfold perN; omega
  have h1 : (k + 1) * perN I D = k * perN I D + 1 + (I + D).toNat := by rw [Nat.succ_mul, e]; omega
  have hl := Sup.headL_length k I D (onL k) (onL k)
  rw [splice_zero n (refL G I D k) (headL k I D (onL k) (onL k)) m (by rw [refL_length G I D hI hD, hm]) (by rw [hl]; omega), hl]
  rw [show n - (m + 1024) = (I + D).toNat * 1024 + (n - (1 + (k + 1) * perN I D) * 1024) by omega, Sup.zeros_add]
  simp [refL]
theorem fine_root (I : Int) (h0 : 1 ≤ I) (h4 : I ≤ 4) : fineL (rootL I) = true := by
  obtain rfl | rfl | rfl | rfl : I = 1 ∨ I = 2 ∨ I = 3 ∨ I = 4 := by omega
  all_goals decide
theorem ok_dots : okB dotsL = true := by decide
end Mk
end Go.Proofs.YtejnmpnioeamhaaGreat
