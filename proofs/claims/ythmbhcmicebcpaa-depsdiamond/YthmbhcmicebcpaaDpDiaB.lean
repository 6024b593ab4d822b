/-
  A change that hangs on many, each in a buffer of its own: those of S are not done.
-/
import Derived.Test.YthmbhcmicebcpaaDpDiaA
namespace Go.Proofs.Ythmbhcmicebcpaa
open Go Go.Proofs Go.RowKit Go.Shelf
theorem rr_in {n : Nat} {x : Int} (h0 : 0 ≤ x) (h1 : x < n) : x ∈ rr 0 n := by
  unfold rr
  refine List.mem_map.2 ⟨x.toNat, ?_, by omega⟩
  rw [List.mem_range'_1]
  omega
def diaC (n : Nat) (S : List Int) (i : Int) : Option Ca := if i = n then some ⟨100, S, []⟩ else if i ∈ S then some ⟨i, [], [(n : Int)]⟩ else none
def diaB (n : Nat) (S : List Int) (b : Int) : Option Ba := if b = 100 then some (if S = [] then ⟨[(n : Int)], []⟩ else ⟨[], [(n : Int)]⟩) else if b ∈ S then some ⟨[b], []⟩ else none
def diaA (n : Nat) (S : List Int) : Ga := ⟨n + 1, diaC n S, diaB n S, S.length + 1, S.length + 1, true, true⟩
def hungC (n k : Nat) (i : Int) : Option Ca := if 0 ≤ i ∧ i < k then some ⟨i, [], [(n : Int)]⟩ else flatC n i
theorem hung_fold (n : Nat) : ∀ k, k ≤ n → (rr 0 k).foldl (addStep (n : Nat)) ([], flatA n) = (rr 0 k, { flatA n with ch := hungC n k }) := by
  intro k
  induction k with
  | zero =>
    intro _
    rw [rr_nil (Nat.le_refl _), List.foldl_nil]
    have e : hungC n 0 = flatC n := funext (fun i => by unfold hungC; rw [if_neg (by omega)])
    rw [e]
    rfl
  | succ k ih =>
    intro hk
    rw [rr_snoc (Nat.zero_le _), List.foldl_append, ih (by omega), List.foldl_cons, List.foldl_nil]
    unfold addStep
    rw [if_neg (fun h => by have := (rr_mem h).2; omega), ins_end (fun y hy => (rr_mem hy).2)]
    congr 1
    unfold Ga.hang
    have hc : hungC n k (k : Int) = some ⟨k, [], []⟩ := by
      unfold hungC
      rw [if_neg (by omega)]
      unfold flatC
      rw [if_pos (by omega)]
    simp only
    rw [hc]
    simp only [List.nil_append, Ga.mk.injEq, true_and, and_true]
    funext i
    by_cases e : i = k
    · subst e
      rw [updC_same]
      unfold hungC
      rw [if_pos (by omega)]
    · rw [updC_other _ _ e]
      unfold hungC
      by_cases h : 0 ≤ i ∧ i < (k : Int)
      · have h2 : 0 ≤ i ∧ i < ((k + 1 : Nat) : Int) := by omega
        rw [if_pos h, if_pos h2]
      · have h2 : ¬ (0 ≤ i ∧ i < ((k + 1 : Nat) : Int)) := by omega
        rw [if_neg h, if_neg h2]
theorem dia_add (n : Nat) (hn : 0 < n) (hb : n ≤ 40) : (flatA n).add 100 (rr 0 n) = diaA n (rr 0 n) := by
  have ho : opens (flatA n) (rr 0 n) = rr 0 n := by
    unfold opens
    rw [List.filter_eq_self]
    intro x hx
    have := rr_mem hx
    show (flatC n x).isSome = true
    unfold flatC
    rw [if_pos (by omega)]
    rfl
  have hne : rr 0 n ≠ [] := by
    intro e
    have := congrArg List.length e
    rw [rr_len] at this
    simp at this
    omega
  have hbf : flatB n 100 = none := by unfold flatB; rw [if_neg (by omega)]
  unfold Ga.add
  rw [ho, show (flatA n).added = n from rfl, hung_fold n n (Nat.le_refl _)]
  unfold Ga.keep Ga.lay Ga.bufd
  simp only
  rw [show (flatA n).bf 100 = _ from hbf]
  unfold Ga.sort
  simp only [updC_same, updC_twice]
  rw [if_neg hne]
  unfold diaA
  simp only [Ga.mk.injEq]
  refine ⟨trivial, funext (fun i => ?_), funext (fun b => ?_), by rw [rr_len]; rfl, by rw [rr_len]; rfl, trivial, trivial⟩
  · unfold diaC
    by_cases e : i = n
    · subst e
      rw [updC_same, if_pos rfl]
    · rw [updC_other _ _ e, if_neg e]
      unfold hungC
      by_cases h : 0 ≤ i ∧ i < (n : Int)
      · rw [if_pos h, if_pos (rr_in h.1 h.2)]
      · rw [if_neg h, if_neg (fun hm => h (by have := rr_mem hm; omega))]
        unfold flatC
        rw [if_neg h]
  · unfold diaB
    by_cases e : b = 100
    · subst e
      rw [updC_same, if_pos rfl, if_neg hne]
      rfl
    · rw [updC_other _ _ e, if_neg e]
      show flatB n b = _
      unfold flatB
      by_cases h : 0 ≤ b ∧ b < (n : Int)
      · rw [if_pos h, if_pos (rr_in h.1 h.2)]
      · rw [if_neg h, if_neg (fun hm => h (by have := rr_mem hm; omega))]
theorem dia_finish (n : Nat) (hb : n ≤ 40) (S : List Int) (hS : ∀ x ∈ S, 0 ≤ x ∧ x < n) (hp : S.Pairwise (· < ·)) (i : Int) (hi : i ∈ S) : (diaA n S).finish i = diaA n (delS i S) := by
  have hr := hS i hi
  have hne : S ≠ [] := fun e => by rw [e] at hi; cases hi
  have hc : diaC n S i = some ⟨i, [], [(n : Int)]⟩ := by unfold diaC; rw [if_neg (by omega), if_pos hi]
  have hbi : diaB n S i = some ⟨[i], []⟩ := by unfold diaB; rw [if_neg (by omega), if_pos hi]
  have hd : delS i [i] = [] := by simp [delS]
  have hlen := del_length hp hi
  have hpos : 0 < S.length := List.length_pos_of_mem hi
  have hcut : (diaA n S).cut i i = ⟨n + 1, updC (diaC n S) i none, updC (diaB n S) i (some ⟨[], []⟩), S.length, S.length + 1, true, true⟩ := by
    unfold Ga.cut
    rw [show (diaA n S).bf i = _ from hbi]
    simp only [hd]
    rfl
  have hcn : updC (diaC n S) i none (n : Int) = some ⟨100, S, []⟩ := by
    rw [updC_other _ _ (by omega)]
    unfold diaC
    rw [if_pos rfl]
  have hb100 : updC (diaB n S) i (some ⟨[], []⟩) 100 = some ⟨[], [(n : Int)]⟩ := by
    rw [updC_other _ _ (by omega)]
    unfold diaB
    rw [if_pos rfl, if_neg hne]
  have hun : [(n : Int)].foldl (Ga.unhang i) ⟨n + 1, updC (diaC n S) i none, updC (diaB n S) i (some ⟨[], []⟩), S.length, S.length + 1, true, true⟩ =
      ⟨n + 1, updC (updC (diaC n S) i none) n (some ⟨100, delS i S, []⟩), if delS i S = [] then updC (updC (diaB n S) i (some ⟨[], []⟩)) 100 (some ⟨[(n : Int)], []⟩) else updC (diaB n S) i (some ⟨[], []⟩), S.length, S.length + 1, true, true⟩ := by
    rw [List.foldl_cons, List.foldl_nil]
    unfold Ga.unhang
    simp only
    rw [hcn]
    simp only
    by_cases h : delS i S = []
    · rw [if_pos h, if_pos h]
      unfold Ga.freed
      simp only
      rw [hb100]
      have h1 : insS (n : Int) [] = [(n : Int)] := rfl
      have h2 : delS (n : Int) [(n : Int)] = [] := by simp [delS]
      simp only [h1, h2]
    · rw [if_neg h, if_neg h]
  have hsh : ∀ f : Int → Option Ba, f i = some ⟨[], []⟩ → (Ga.shed ⟨n + 1, updC (updC (diaC n S) i none) n (some ⟨100, delS i S, []⟩), f, S.length, S.length + 1, true, true⟩ i) = ⟨n + 1, updC (updC (diaC n S) i none) n (some ⟨100, delS i S, []⟩), updC f i none, S.length, S.length, true, true⟩ := fun f hf => by
    unfold Ga.shed
    simp only
    rw [hf]
    simp
  unfold Ga.finish
  rw [show (diaA n S).ch i = _ from hc]
  simp only
  rw [hcut, hun, hsh _ (by
    by_cases h : delS i S = []
    · rw [if_pos h, updC_other _ _ (by omega), updC_same]
    · rw [if_neg h, updC_same])]
  unfold diaA
  simp only [Ga.mk.injEq]
  refine ⟨trivial, funext (fun j => ?_), funext (fun b => ?_), by omega, by omega, trivial, trivial⟩
  · unfold diaC
    by_cases e : j = n
    · subst e
      rw [updC_same, if_pos rfl]
    · rw [updC_other _ _ e, if_neg e]
      by_cases e2 : j = i
      · subst e2
        rw [updC_same, if_neg (fun h => (mem_del.1 h).2 rfl)]
      · rw [updC_other _ _ e2, if_neg e]
        by_cases h : j ∈ S
        · rw [if_pos h, if_pos (mem_del.2 ⟨h, e2⟩)]
        · rw [if_neg h, if_neg (fun hh => h (mem_del.1 hh).1)]
  · unfold diaB
    by_cases e : b = i
    · subst e
      rw [updC_same, if_neg (by omega), if_neg (fun h => (mem_del.1 h).2 rfl)]
    · rw [updC_other _ _ e]
      by_cases e2 : b = 100
      · subst e2
        rw [if_pos rfl]
        by_cases h : delS i S = []
        · rw [if_pos h, if_pos h, updC_same]
        · rw [if_neg h, if_neg h, updC_other _ _ e, if_pos rfl, if_neg hne]
      · rw [if_neg e2]
        have h3 : (if delS i S = [] then updC (updC (fun b => if b = 100 then some (if S = [] then (⟨[(n : Int)], []⟩ : Ba) else ⟨[], [(n : Int)]⟩) else if b ∈ S then some ⟨[b], []⟩ else none) i (some ⟨[], []⟩)) 100 (some ⟨[(n : Int)], []⟩) else updC (fun b => if b = 100 then some (if S = [] then (⟨[(n : Int)], []⟩ : Ba) else ⟨[], [(n : Int)]⟩) else if b ∈ S then some ⟨[b], []⟩ else none) i (some ⟨[], []⟩)) b = if b ∈ S then some ⟨[b], []⟩ else none := by
          by_cases h : delS i S = []
          · rw [if_pos h, updC_other _ _ e2, updC_other _ _ e, if_neg e2]
          · rw [if_neg h, updC_other _ _ e, if_neg e2]
        rw [h3]
        by_cases h : b ∈ S
        · rw [if_pos h, if_pos (mem_del.2 ⟨h, e⟩)]
        · rw [if_neg h, if_neg (fun hh => h (mem_del.1 hh).1)]
theorem dia_fit (n : Nat) (hn : n ≤ 40) (S : List Int) (hS : ∀ x ∈ S, 0 ≤ x ∧ x < n) (hl : S.length ≤ n) : (diaA n S).Fit := by
  refine ⟨⟨by show n + 1 ≤ _; omega, fun i c h => ?_, fun b x h => ?_⟩, rfl, by show S.length + 1 < _; omega, by show S.length + 1 < _; omega, by show n + 1 < _; omega, fun y c h => ?_⟩
  · have h' : diaC n S i = some c := h
    unfold diaC at h'
    split at h'
    · rename_i e
      cases h'
      refine ⟨⟨by show 0 ≤ i; omega, by show i < ((n + 1 : Nat) : Int); omega⟩, wf7 100 (by omega), ?_⟩
      show (diaB n S 100).isSome = true
      unfold diaB
      rw [if_pos rfl]
      rfl
    · split at h'
      · rename_i hm
        cases h'
        have hr := hS i hm
        refine ⟨⟨hr.1, by show i < ((n + 1 : Nat) : Int); omega⟩, wf7 i (by omega), ?_⟩
        show (diaB n S i).isSome = true
        unfold diaB
        rw [if_neg (by omega), if_pos hm]
        rfl
      · cases h'
  · have h' : diaB n S b = some x := h
    unfold diaB at h'
    have hn1 : (0 : Int) ≤ (n : Int) ∧ (n : Int) < ((n + 1 : Nat) : Int) := by omega
    split at h'
    · cases h'
      by_cases e : S = []
      · rw [if_pos e]
        exact ⟨fun y hy => by rw [List.mem_singleton.1 hy]; exact hn1, fun y hy => by cases hy⟩
      · rw [if_neg e]
        exact ⟨fun y hy => (by cases hy), fun y hy => by rw [List.mem_singleton.1 hy]; exact hn1⟩
    · split at h'
      · rename_i hm
        cases h'
        have hr := hS b hm
        exact ⟨fun y hy => by rw [List.mem_singleton.1 hy]; exact ⟨hr.1, by show b < ((n + 1 : Nat) : Int); omega⟩, fun y hy => by cases hy⟩
      · cases h'
  · have h' : diaC n S y = some c := h
    unfold diaC at h'
    split at h'
    · cases h'
      simp
    · split at h'
      · cases h'
        simp
      · cases h'
end Go.Proofs.Ythmbhcmicebcpaa
