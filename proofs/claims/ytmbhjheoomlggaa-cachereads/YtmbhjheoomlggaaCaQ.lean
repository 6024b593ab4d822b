/-
  Gets round and round: what is kept.
-/
import Derived.Test.YtmbhjheoomlggaaCaLru
namespace Go.Proofs.Ytmbhjheoomlggaa
open Go Go.Proofs Go.RowKit Go.Shelf
/-- What is kept behind t gets, round and round. -/
def qN (size n t : Nat) : List Nat := (List.range (min (min size n) t)).map (fun j => (t - min (min size n) t + j) % n)
def rdN (size n t : Nat) : Nat := if n ≤ size then min t n else t
def qOk (size n t : Nat) : Bool := (lruN size (qN size n t) (t % n) == qN size n (t + 1)) && ((qN size n t).contains (t % n) == (decide (n ≤ size) && decide (n ≤ t)))
theorem q_all : (List.range 12).all (fun a => (List.range 12).all (fun b => (List.range 72).all (fun t => qOk (a + 1) (b + 1) t))) = true := by decide +kernel
theorem q_step {size n t : Nat} (h1 : 1 ≤ size) (h2 : size ≤ 12) (h3 : 1 ≤ n) (h4 : n ≤ 12) (h5 : t < 72) : lruN size (qN size n t) (t % n) = qN size n (t + 1) ∧ (if t % n ∈ qN size n t then (rdN size n t : Int) else (rdN size n t : Int) + 1) = (rdN size n (t + 1) : Int) := by
  have h := q_all
  rw [List.all_eq_true] at h
  have h := h (size - 1) (List.mem_range.2 (by omega))
  rw [List.all_eq_true] at h
  have h := h (n - 1) (List.mem_range.2 (by omega))
  rw [List.all_eq_true] at h
  have h := h t (List.mem_range.2 h5)
  rw [show size - 1 + 1 = size by omega, show n - 1 + 1 = n by omega] at h
  unfold qOk at h
  rw [Bool.and_eq_true] at h
  refine ⟨by simpa using h.1, ?_⟩
  have h7 : (t % n ∈ qN size n t) ↔ (n ≤ size ∧ n ≤ t) := by
    have h6 := h.2
    rw [beq_iff_eq, Bool.eq_iff_iff] at h6
    simpa using h6
  by_cases hc : n ≤ size ∧ n ≤ t
  · rw [if_pos (h7.2 hc)]
    unfold rdN
    rw [if_pos hc.1, if_pos hc.1]
    omega
  · rw [if_neg (fun hm => hc (h7.1 hm))]
    unfold rdN
    by_cases hn : n ≤ size
    · rw [if_pos hn, if_pos hn]; omega
    · rw [if_neg hn, if_neg hn]; omega
end Go.Proofs.Ytmbhjheoomlggaa
