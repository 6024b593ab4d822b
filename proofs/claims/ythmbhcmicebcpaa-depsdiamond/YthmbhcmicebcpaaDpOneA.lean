/-
  A chain of changes in one buffer, the first k of them done.
-/
import Derived.Test.YthmbhcmicebcpaaDpAlive
namespace Go.Proofs.Ythmbhcmicebcpaa
open Go Go.Proofs Go.RowKit Go.Shelf
/-- a, .., n - 1. -/
def rr (a n : Nat) : List Int := (List.range' a (n - a)).map (fun j : Nat => (j : Int))
theorem rr_nil {a n : Nat} (h : n ≤ a) : rr a n = [] := by unfold rr; rw [show n - a = 0 by omega]; rfl
theorem rr_cons {a n : Nat} (h : a < n) : rr a n = (a : Int) :: rr (a + 1) n := by
  unfold rr
  rw [show n - a = (n - (a + 1)) + 1 by omega, List.range'_succ]
  rfl
theorem rr_snoc {a n : Nat} (h : a ≤ n) : rr a (n + 1) = rr a n ++ [(n : Int)] := by
  unfold rr
  rw [show n + 1 - a = (n - a) + 1 by omega, List.range'_concat, List.map_append]
  simp
  omega
theorem rr_mem {a n : Nat} {x : Int} (h : x ∈ rr a n) : (a : Int) ≤ x ∧ x < n := by
  unfold rr at h
  obtain ⟨j, hj, rfl⟩ := List.mem_map.1 h
  rw [List.mem_range'_1] at hj
  omega
theorem rr_len (a n : Nat) : (rr a n).length = n - a := by unfold rr; simp
theorem ins_end {x : Int} {L : List Int} (h : ∀ y ∈ L, y < x) : insS x L = L ++ [x] := by
  induction L with
  | nil => rfl
  | cons z r ih =>
    have hz := h z (by simp)
    unfold insS
    rw [if_neg (by omega), if_neg (by omega), ih (fun y hy => h y (by simp [hy]))]
    rfl
theorem del_head {a n : Nat} (h : a < n) : delS (a : Int) (rr a n) = rr (a + 1) n := by
  rw [rr_cons h]
  unfold delS
  rw [List.filter_cons, if_neg (by simp)]
  exact del_none (fun hm => by have := (rr_mem hm).1; omega)
def oneC (n k : Nat) (i : Int) : Option Ca := if (k : Int) ≤ i ∧ i < n then some ⟨5, if i = k then [] else [i - 1], if i + 1 < n then [i + 1] else []⟩ else none
def oneB (n k : Nat) (b : Int) : Option Ba := if b = 5 ∧ k < n then some ⟨[(k : Int)], rr (k + 1) n⟩ else none
def oneA (n k : Nat) : Ga := ⟨n, oneC n k, oneB n k, n - k, if k < n then 1 else 0, decide (0 < n), decide (0 < n)⟩
theorem one_zero : newD.abs = oneA 0 0 := by
  unfold oneA
  have e1 : oneC 0 0 = fun _ => none := funext (fun i => by unfold oneC; rw [if_neg (by omega)])
  have e2 : oneB 0 0 = fun _ => none := funext (fun i => by unfold oneB; rw [if_neg (by omega)])
  rw [e1, e2]
  rfl
def oneX (n : Nat) : List Int := if n = 0 then [] else [(n : Int) - 1]
theorem one_add (n : Nat) : (oneA n 0).add 5 (oneX n) = oneA (n + 1) 0 := by
  rcases Nat.eq_zero_or_pos n with rfl | hn
  · rw [← one_zero]
    have e1 : oneC 1 0 = updC (fun _ => none) 0 (some ⟨5, [], []⟩) := funext (fun i => by
      unfold oneC
      by_cases e : i = 0
      · subst e
        rw [updC_same, if_pos (by omega)]
        simp
      · rw [updC_other _ _ e, if_neg (by omega)])
    have e2 : oneB 1 0 = updC (fun _ => none) 5 (some ⟨[0], []⟩) := funext (fun b => by
      unfold oneB
      by_cases e : b = 5
      · subst e
        rw [updC_same, if_pos (by omega), rr_nil (by omega)]
        rfl
      · rw [updC_other _ _ e, if_neg (by simp [e])])
    show newD.abs.add 5 [] = _
    unfold oneA
    simp only [Nat.zero_add]
    rw [e1, e2]
    simp [Ga.add, opens, Ga.keep, Ga.lay, Ga.bufd, Ga.sort, newD, Gd.abs, updC_same, updC_twice, insS]
  · have hx : oneX n = [(n : Int) - 1] := by unfold oneX; rw [if_neg (by omega)]
    rw [hx]
    have hc : oneC n 0 ((n : Int) - 1) = some ⟨5, if (n : Int) - 1 = 0 then [] else [(n : Int) - 1 - 1], []⟩ := by
      unfold oneC
      rw [if_pos (by omega)]
      simp
    have ho : opens (oneA n 0) [(n : Int) - 1] = [(n : Int) - 1] := by
      unfold opens
      have : ((oneA n 0).ch ((n : Int) - 1)).isSome = true := by show (oneC n 0 _).isSome = true; rw [hc]; rfl
      rw [List.filter_cons, if_pos this]
      rfl
    have hb : oneB n 0 5 = some ⟨[0], rr 1 n⟩ := by unfold oneB; rw [if_pos ⟨rfl, hn⟩]; rfl
    have e1 : oneC (n + 1) 0 = updC (updC (oneC n 0) ((n : Int) - 1) (some ⟨5, if (n : Int) - 1 = 0 then [] else [(n : Int) - 1 - 1], [(n : Int)]⟩)) (n : Int) (some ⟨5, [(n : Int) - 1], []⟩) := funext (fun i => by
      by_cases e : i = n
      · subst e
        rw [updC_same]
        unfold oneC
        rw [if_pos (by omega)]
        have h1 : ¬ ((n : Int) = ((0 : Nat) : Int)) := by omega
        have h2 : ¬ ((n : Int) + 1 < ((n + 1 : Nat) : Int)) := by omega
        rw [if_neg h1, if_neg h2]
      · rw [updC_other _ _ e]
        by_cases e2 : i = (n : Int) - 1
        · subst e2
          rw [updC_same]
          unfold oneC
          rw [if_pos (by omega)]
          have h2 : ((n : Int) - 1 + 1 < ((n + 1 : Nat) : Int)) := by omega
          rw [if_pos h2]
          simp
        · rw [updC_other _ _ e2]
          unfold oneC
          by_cases h : ((0 : Nat) : Int) ≤ i ∧ i < n
          · rw [if_pos h, if_pos (by omega)]
            have h2 : (i + 1 < ((n + 1 : Nat) : Int)) := by omega
            have h3 : i + 1 < (n : Int) := by omega
            rw [if_pos h2, if_pos h3]
          · rw [if_neg h, if_neg (by omega)])
    have e2 : oneB (n + 1) 0 = updC (oneB n 0) 5 (some ⟨[0], insS (n : Int) (rr 1 n)⟩) := funext (fun b => by
      by_cases e : b = 5
      · subst e
        rw [updC_same, ins_end (fun y hy => (rr_mem hy).2), ← rr_snoc (by omega)]
        unfold oneB
        rw [if_pos (by omega)]
        rfl
      · rw [updC_other _ _ e]
        unfold oneB
        rw [if_neg (by simp [e]), if_neg (by simp [e])])
    have hadd : (oneA n 0).added = n := rfl
    unfold Ga.add
    rw [ho, hadd]
    have hst : ([(n : Int) - 1].foldl (addStep (n : Nat)) ([], oneA n 0)) = ([(n : Int) - 1], { oneA n 0 with ch := updC (oneC n 0) ((n : Int) - 1) (some ⟨5, if (n : Int) - 1 = 0 then [] else [(n : Int) - 1 - 1], [(n : Int)]⟩) }) := by
      rw [List.foldl_cons, List.foldl_nil]
      unfold addStep
      rw [if_neg (by simp)]
      congr 1
      unfold Ga.hang
      rw [show (oneA n 0).ch ((n : Int) - 1) = _ from hc]
      rfl
    rw [hst]
    unfold Ga.keep Ga.lay
    simp only
    have hbd : ∀ (A : Ga) x, A.bf 5 = some x → A.bufd 5 = A := fun A x h => by unfold Ga.bufd; rw [h]
    rw [hbd _ _ (show oneB n 0 5 = _ from hb)]
    unfold Ga.sort
    simp only
    rw [show (oneA n 0).bf 5 = _ from hb]
    simp only
    rw [if_neg (by simp)]
    unfold oneA
    simp only [Ga.mk.injEq]
    refine ⟨trivial, e1.symm, e2.symm, by omega, ?_, ?_, ?_⟩
    · rw [if_pos hn, if_pos (by omega)]
    · simp
    · simp
theorem one_finish (n k : Nat) (hk : k < n) : (oneA n k).finish k = oneA n (k + 1) := by
  have hc : oneC n k k = some ⟨5, [], if (k : Int) + 1 < n then [(k : Int) + 1] else []⟩ := by
    unfold oneC
    rw [if_pos (by omega), if_pos rfl]
  have hb : oneB n k 5 = some ⟨[(k : Int)], rr (k + 1) n⟩ := by unfold oneB; rw [if_pos ⟨rfl, hk⟩]
  have hcut : (oneA n k).cut k 5 = ⟨n, updC (oneC n k) k none, updC (oneB n k) 5 (some ⟨[], rr (k + 1) n⟩), n - k - 1, 1, decide (0 < n), decide (0 < n)⟩ := by
    unfold Ga.cut
    rw [show (oneA n k).bf 5 = _ from hb]
    have hd : delS (k : Int) [(k : Int)] = [] := by simp [delS]
    simp only [hd]
    unfold oneA
    rw [if_pos hk]
  unfold Ga.finish
  rw [show (oneA n k).ch k = _ from hc]
  simp only
  rw [hcut]
  by_cases hlast : k + 1 < n
  · have hi : (k : Int) + 1 < n := by omega
    rw [if_pos hi]
    have hc1 : updC (oneC n k) k none ((k : Int) + 1) = some ⟨5, [(k : Int)], if (k : Int) + 1 + 1 < n then [(k : Int) + 1 + 1] else []⟩ := by
      rw [updC_other _ _ (by omega)]
      unfold oneC
      rw [if_pos (by omega), if_neg (by omega)]
      simp
    have hd : delS (k : Int) [(k : Int)] = [] := by simp [delS]
    have hun : [(k : Int) + 1].foldl (Ga.unhang k) ⟨n, updC (oneC n k) k none, updC (oneB n k) 5 (some ⟨[], rr (k + 1) n⟩), n - k - 1, 1, decide (0 < n), decide (0 < n)⟩ = ⟨n, updC (updC (oneC n k) k none) ((k : Int) + 1) (some ⟨5, [], if (k : Int) + 1 + 1 < n then [(k : Int) + 1 + 1] else []⟩), updC (oneB n k) 5 (some ⟨[(k : Int) + 1], rr (k + 2) n⟩), n - k - 1, 1, decide (0 < n), decide (0 < n)⟩ := by
      rw [List.foldl_cons, List.foldl_nil]
      unfold Ga.unhang
      simp only
      rw [hc1]
      simp only [hd, if_true]
      unfold Ga.freed
      simp only [updC_same, updC_twice]
      have hdel : delS ((k : Int) + 1) (rr (k + 1) n) = rr (k + 2) n := by
        have := del_head hlast
        rw [show ((k + 1 : Nat) : Int) = (k : Int) + 1 by omega] at this
        exact this
      rw [hdel]
      rfl
    rw [hun]
    unfold Ga.shed
    simp only [updC_same]
    rw [if_neg (by simp)]
    unfold oneA
    simp only [Ga.mk.injEq]
    refine ⟨trivial, funext (fun i => ?_), funext (fun b => ?_), by omega, ?_, trivial, trivial⟩
    · by_cases e : i = (k : Int) + 1
      · subst e
        rw [updC_same]
        unfold oneC
        have h1 : (((k + 1 : Nat) : Int) ≤ (k : Int) + 1 ∧ (k : Int) + 1 < n) := by omega
        have h2 : (k : Int) + 1 = ((k + 1 : Nat) : Int) := by omega
        rw [if_pos h1, if_pos h2]
      · rw [updC_other _ _ e]
        by_cases e2 : i = k
        · subst e2
          rw [updC_same]
          unfold oneC
          rw [if_neg (by omega)]
        · rw [updC_other _ _ e2]
          unfold oneC
          by_cases h : (k : Int) ≤ i ∧ i < n
          · have h1 : (((k + 1 : Nat) : Int) ≤ i ∧ i < n) := by omega
            have h3 : ¬ i = ((k + 1 : Nat) : Int) := by omega
            rw [if_pos h, if_pos h1, if_neg e2, if_neg h3]
          · rw [if_neg h, if_neg (by omega)]
    · by_cases e : b = 5
      · subst e
        rw [updC_same]
        unfold oneB
        rw [if_pos ⟨rfl, hlast⟩]
        simp
      · rw [updC_other _ _ e]
        unfold oneB
        rw [if_neg (by simp [e]), if_neg (by simp [e])]
    · rw [if_pos hlast]
  · have hi : ¬ (k : Int) + 1 < n := by omega
    rw [if_neg hi]
    rw [List.foldl_nil]
    unfold Ga.shed
    simp only [updC_same]
    rw [if_pos (by rw [rr_nil (by omega)]; rfl), updC_twice]
    unfold oneA
    simp only [Ga.mk.injEq]
    refine ⟨trivial, funext (fun i => ?_), funext (fun b => ?_), by omega, ?_, trivial, trivial⟩
    · by_cases e2 : i = k
      · subst e2
        rw [updC_same]
        unfold oneC
        rw [if_neg (by omega)]
      · rw [updC_other _ _ e2]
        unfold oneC
        rw [if_neg (by omega), if_neg (by omega)]
    · by_cases e : b = 5
      · subst e
        rw [updC_same]
        unfold oneB
        rw [if_neg (by omega)]
      · rw [updC_other _ _ e]
        unfold oneB
        rw [if_neg (by simp [e]), if_neg (by simp [e])]
    · rw [if_neg (by omega)]
theorem one_fit (n k : Nat) (hn : n ≤ 100) : (oneA n k).Fit := by
  refine ⟨⟨by show n ≤ _; omega, fun i c h => ?_, fun b x h => ?_⟩, rfl, by show n - k < _; omega, by show (if k < n then 1 else 0) < _; split <;> omega, by show n < _; omega, fun y c h => ?_⟩
  · have h' : oneC n k i = some c := h
    unfold oneC at h'
    split at h'
    · rename_i hh
      cases h'
      refine ⟨⟨by omega, hh.2⟩, wf7 5 (by omega), ?_⟩
      show (oneB n k 5).isSome = true
      unfold oneB
      rw [if_pos ⟨rfl, by omega⟩]
      rfl
    · cases h'
  · have h' : oneB n k b = some x := h
    unfold oneB at h'
    split at h'
    · rename_i hh
      cases h'
      refine ⟨fun y hy => ?_, fun y hy => ?_⟩
      · rw [List.mem_singleton.1 hy]
        exact ⟨by omega, by show (k : Int) < (n : Nat); omega⟩
      · have := rr_mem hy
        exact ⟨by omega, this.2⟩
    · cases h'
  · have h' : oneC n k y = some c := h
    unfold oneC at h'
    split at h'
    · cases h'
      show (if _ then _ else _ : List Int).length ≤ _
      split <;> simp
    · cases h'
end Go.Proofs.Ythmbhcmicebcpaa
