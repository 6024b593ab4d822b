/-
  Heaps by rank: lists and functions alone.
-/
import Derived.Test.YtjljklfahmjngaaPaSwap
namespace Go.Proofs.Ytjljklfahmjngaa
open Go Go.Proofs
/-- Ranks by place: no one is less than the one above it. -/
def HeapF (f : Nat → Int) (n : Nat) : Prop := ∀ k, 0 < k → k < n → f ((k - 1) / 2) ≤ f k
def swF (f : Nat → Int) (i j : Nat) : Nat → Int := fun k => if k = j then f i else if k = i then f j else f k
/-- So but at j, which may be less than the one above it. -/
def UpF (f : Nat → Int) (n j : Nat) : Prop := (∀ k, 0 < k → k < n → k ≠ j → f ((k - 1) / 2) ≤ f k) ∧ ∀ k, 0 < k → k < n → (k - 1) / 2 = j → 0 < j → f ((j - 1) / 2) ≤ f k
/-- So but at i, which may be more than those below it. -/
def DownF (f : Nat → Int) (n i : Nat) : Prop := (∀ k, 0 < k → k < n → (k - 1) / 2 ≠ i → f ((k - 1) / 2) ≤ f k) ∧ ∀ k, 0 < k → k < n → (k - 1) / 2 = i → 0 < i → f ((i - 1) / 2) ≤ f k
theorem up_step {f : Nat → Int} {n j : Nat} (h : UpF f n j) (h0 : 0 < j) (hj : j < n) (hl : f j < f ((j - 1) / 2)) : UpF (swF f ((j - 1) / 2) j) n ((j - 1) / 2) := by
  obtain ⟨i, hi⟩ : ∃ i, i = (j - 1) / 2 := ⟨_, rfl⟩
  rw [← hi] at hl ⊢
  have hij : i < j := by omega
  have h2 := h.2
  rw [← hi] at h2
  refine ⟨fun k hk hkn hki => ?_, fun k hk hkn hp hi0 => ?_⟩
  · obtain ⟨p, hp⟩ : ∃ p, p = (k - 1) / 2 := ⟨_, rfl⟩
    have h1 := h.1 k hk hkn
    rw [← hp] at h1 ⊢
    by_cases e : k = j
    · have : p = i := by rw [hp, e, hi]
      subst e this
      simp only [swF, if_true, if_neg (Nat.ne_of_lt hij)]
      omega
    · have g := h1 e
      by_cases e2 : p = j
      · have := h2 k hk hkn (by rw [← hp]; exact e2) h0
        simp only [swF, if_neg e, if_neg hki, if_pos e2]
        exact this
      · by_cases e3 : p = i
        · simp only [swF, if_neg e, if_neg hki, if_neg e2, if_pos e3]
          rw [e3] at g
          omega
        · simp only [swF, if_neg e, if_neg hki, if_neg e2, if_neg e3]
          exact g
  · have g := h.1 i hi0 (by omega) (by omega)
    obtain ⟨q, hq⟩ : ∃ q, q = (i - 1) / 2 := ⟨_, rfl⟩
    have hqi : q < i := by omega
    rw [← hq] at g ⊢
    have hqj : q ≠ j := by omega
    by_cases e : k = j
    · simp only [swF, if_neg hqj, if_neg (Nat.ne_of_lt hqi), if_pos e]
      exact g
    · have hk1 := h.1 k hk hkn e
      rw [hp] at hk1
      have hki : k ≠ i := by omega
      simp only [swF, if_neg hqj, if_neg (Nat.ne_of_lt hqi), if_neg e, if_neg hki]
      omega
theorem up_stop {f : Nat → Int} {n j : Nat} (h : UpF f n j) (hs : j = 0 ∨ ¬ f j < f ((j - 1) / 2)) : HeapF f n := by
  intro k hk hkn
  by_cases e : k = j
  · subst e
    rcases hs with h0 | h0
    · omega
    · omega
  · exact h.1 k hk hkn e
theorem up_start {f : Nat → Int} {n : Nat} (h : HeapF f n) : UpF f (n + 1) n :=
  ⟨fun k hk hkn hne => h k hk (by omega), fun k hk hkn hp hn => by omega⟩
theorem down_step {f : Nat → Int} {n i j : Nat} (h : DownF f n i) (hj : 0 < j) (hjn : j < n) (hp : (j - 1) / 2 = i) (hm : ∀ k, 0 < k → k < n → (k - 1) / 2 = i → f j ≤ f k) (hl : f j < f i) : DownF (swF f i j) n j := by
  have hij : i < j := by omega
  refine ⟨fun k hk hkn hki => ?_, fun k hk hkn hpk hj0 => ?_⟩
  · obtain ⟨p, hpp⟩ : ∃ p, p = (k - 1) / 2 := ⟨_, rfl⟩
    have h1 := h.1 k hk hkn
    have h2 := hm k hk hkn
    have h3 := h.2 k hk hkn
    rw [← hpp] at h1 h2 h3 hki ⊢
    by_cases e : k = j
    · have : p = i := by rw [hpp, e, hp]
      subst e this
      simp only [swF, if_true, if_neg (Nat.ne_of_lt hij)]
      omega
    · by_cases e2 : k = i
      · have hpi : p ≠ i := by omega
        have := h.2 j hj hjn hp (by omega)
        have e4 : (i - 1) / 2 = p := by rw [hpp, e2]
        rw [e4] at this
        simp only [swF, if_neg e, if_pos e2, if_neg hki, if_neg hpi]
        exact this
      · by_cases e3 : p = i
        · simp only [swF, if_neg e, if_neg e2, if_neg hki, if_pos e3]
          exact h2 e3
        · simp only [swF, if_neg e, if_neg e2, if_neg hki, if_neg e3]
          exact h1 e3
  · have h1 := h.1 k hk hkn (by omega)
    rw [hpk] at h1
    have hkj : k ≠ j := by omega
    have hki : k ≠ i := by omega
    rw [hp]
    simp only [swF, if_neg hkj, if_neg hki, if_neg (Nat.ne_of_lt hij), if_true]
    exact h1
theorem down_stop {f : Nat → Int} {n i : Nat} (h : DownF f n i) (hs : ∀ k, 0 < k → k < n → (k - 1) / 2 = i → f i ≤ f k) : HeapF f n := by
  intro k hk hkn
  by_cases e : (k - 1) / 2 = i
  · rw [e]; exact hs k hk hkn e
  · exact h.1 k hk hkn e
theorem down_start {f : Nat → Int} {n : Nat} (h : HeapF f (n + 1)) : DownF (swF f 0 n) n 0 := by
  refine ⟨fun k hk hkn hne => ?_, fun k _ _ _ h0 => by omega⟩
  have h1 := h k hk (by omega)
  obtain ⟨p, hpp⟩ : ∃ p, p = (k - 1) / 2 := ⟨_, rfl⟩
  rw [← hpp] at h1 hne ⊢
  have a1 : k ≠ n := by omega
  have a2 : k ≠ 0 := by omega
  have a3 : p ≠ n := by omega
  simp only [swF, if_neg a1, if_neg a2, if_neg a3, if_neg hne]
  exact h1
/-- The first is the least. -/
theorem heap_least {f : Nat → Int} {n : Nat} (h : HeapF f n) : ∀ k, k < n → f 0 ≤ f k := by
  intro k
  induction k using Nat.strongRecOn with
  | ind k ih =>
    intro hk
    by_cases e : k = 0
    · rw [e]; exact Int.le_refl _
    · have h1 := h k (by omega) hk
      have h2 := ih ((k - 1) / 2) (by omega) (by omega)
      omega
/-- By a row. -/
def rkF (H : List (Int × Pt)) : Nat → Int := fun k => (H.getD k noS).1
def swL (H : List (Int × Pt)) (i j : Nat) : List (Int × Pt) := (H.set i (H.getD j noS)).set j (H.getD i noS)
theorem swL_length (H : List (Int × Pt)) (i j : Nat) : (swL H i j).length = H.length := by simp [swL]
theorem swL_rk (H : List (Int × Pt)) (i j : Nat) (hi : i < H.length) (hj : j < H.length) : rkF (swL H i j) = swF (rkF H) i j := by
  funext k
  simp only [rkF, swL, swF, List.getD_eq_getElem?_getD, List.getElem?_set, List.length_set]
  by_cases e : j = k
  · subst e; simp [hj]
  · by_cases e2 : i = k
    · subst e2; simp [e, hi, Ne.symm e]
    · simp [e, e2, Ne.symm e, Ne.symm e2]
theorem swL_perm (H : List (Int × Pt)) (i j : Nat) (hi : i < H.length) (hj : j < H.length) : (swL H i j).Perm H := by
  have e1 : H.getD j noS = H[j] := by simp [hj]
  have e2 : H.getD i noS = H[i] := by simp [hi]
  rw [swL, e1, e2]
  exact List.set_set_perm hi hj
end Go.Proofs.Ytjljklfahmjngaa
