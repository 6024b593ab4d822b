/-
  Changes that hang on nothing, each in a buffer of its own (for DepsDiamond).
-/
import Derived.Test.YthmbhcmicebcpaaDpOne
namespace Go.Proofs.Ythmbhcmicebcpaa
open Go Go.Proofs Go.RowKit Go.Shelf
def flatC (m : Nat) (i : Int) : Option Ca := if 0 ≤ i ∧ i < m then some ⟨i, [], []⟩ else none
def flatB (m : Nat) (b : Int) : Option Ba := if 0 ≤ b ∧ b < m then some ⟨[b], []⟩ else none
def flatA (m : Nat) : Ga := ⟨m, flatC m, flatB m, m, m, decide (0 < m), decide (0 < m)⟩
theorem flat_zero : newD.abs = flatA 0 := by
  unfold flatA
  have e1 : flatC 0 = fun _ => none := funext (fun i => by unfold flatC; rw [if_neg (by omega)])
  have e2 : flatB 0 = fun _ => none := funext (fun i => by unfold flatB; rw [if_neg (by omega)])
  rw [e1, e2]
  rfl
theorem flat_add (m : Nat) : (flatA m).add m [] = flatA (m + 1) := by
  have hb : flatB m m = none := by unfold flatB; rw [if_neg (by omega)]
  have e1 : flatC (m + 1) = updC (flatC m) (m : Int) (some ⟨m, [], []⟩) := funext (fun i => by
    by_cases e : i = m
    · subst e
      rw [updC_same]
      unfold flatC
      rw [if_pos (by omega)]
    · rw [updC_other _ _ e]
      unfold flatC
      by_cases h : 0 ≤ i ∧ i < (m : Int)
      · have h1 : 0 ≤ i ∧ i < ((m + 1 : Nat) : Int) := by omega
        rw [if_pos h, if_pos h1]
      · have h1 : ¬ (0 ≤ i ∧ i < ((m + 1 : Nat) : Int)) := by omega
        rw [if_neg h, if_neg h1])
  have e2 : flatB (m + 1) = updC (flatB m) (m : Int) (some ⟨[(m : Int)], []⟩) := funext (fun i => by
    by_cases e : i = m
    · subst e
      rw [updC_same]
      unfold flatB
      rw [if_pos (by omega)]
    · rw [updC_other _ _ e]
      unfold flatB
      by_cases h : 0 ≤ i ∧ i < (m : Int)
      · have h1 : 0 ≤ i ∧ i < ((m + 1 : Nat) : Int) := by omega
        rw [if_pos h, if_pos h1]
      · have h1 : ¬ (0 ≤ i ∧ i < ((m + 1 : Nat) : Int)) := by omega
        rw [if_neg h, if_neg h1])
  have ho : opens (flatA m) [] = [] := rfl
  unfold Ga.add
  rw [ho]
  simp only [List.foldl_nil]
  unfold Ga.keep Ga.lay Ga.bufd
  simp only
  rw [show (flatA m).bf m = _ from hb]
  unfold Ga.sort
  simp only [updC_same, updC_twice, if_true]
  unfold flatA
  simp only [Ga.mk.injEq]
  exact ⟨trivial, e1.symm, e2.symm, trivial, trivial, by simp, by simp⟩
theorem flat_fit (m : Nat) (hm : m ≤ 100) : (flatA m).Fit := by
  refine ⟨⟨by show m ≤ _; omega, fun i c h => ?_, fun b x h => ?_⟩, rfl, by show m < _; omega, by show m < _; omega, by show m < _; omega, fun y c h => ?_⟩
  · have h' : flatC m i = some c := h
    unfold flatC at h'
    split at h'
    · rename_i hh
      cases h'
      refine ⟨hh, wf7 i (by omega), ?_⟩
      show (flatB m i).isSome = true
      unfold flatB
      rw [if_pos hh]
      rfl
    · cases h'
  · have h' : flatB m b = some x := h
    unfold flatB at h'
    split at h'
    · rename_i hh
      cases h'
      exact ⟨fun y hy => by rw [List.mem_singleton.1 hy]; exact hh, fun y hy => by cases hy⟩
    · cases h'
  · have h' : flatC m y = some c := h
    unfold flatC at h'
    split at h'
    · cases h'
      simp
    · cases h'
end Go.Proofs.Ythmbhcmicebcpaa
