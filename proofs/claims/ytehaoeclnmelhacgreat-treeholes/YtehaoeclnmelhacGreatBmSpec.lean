/-
  Where the pointer to a file's block stands, as numbers: no program.
-/
import Derived.Test.YtehaoeclnmelhacGreatBase
namespace Go.Proofs.YtehaoeclnmelhacGreat
open Go Go.Proofs Go.RowKit

/-- Is it a block of a file? -/
def blB (n : Int) : Bool := decide (0 ≤ n ∧ n < 65800)
/-- Its level, its place, and its place in the block that stands there. -/
def blL (n : Int) : Int := if blB n = true then (if n < 8 then 0 else if n < 264 then 1 else 2) else 0
def blX (n : Int) : Int := if blB n = true then (if n < 8 then n else if n < 264 then n - 8 else (n - 264) / 256) else 0
def blY (n : Int) : Int := if blB n = true then (if n < 264 then 0 else (n - 264) % 256) else 0
/-- The first block of a pointer. -/
def fsB (l i : Int) : Bool := decide ((l = 0 ∧ 0 ≤ i ∧ i < 8) ∨ (l = 1 ∧ i = 0) ∨ (l = 2 ∧ 0 ≤ i ∧ i < 256))
def fsI (l i : Int) : Int := if fsB l i = true then (if l = 0 then i else if l = 1 then 8 else 264 + 256 * i) else 0
/-- How many blocks a size has. -/
def cnI (s : Int) : Int := if 0 ≤ s ∧ s ≤ 67379200 then (s + 1023) / 1024 else 0
theorem bl_iff {n : Int} : blB n = true ↔ 0 ≤ n ∧ n < 65800 := by simp [blB]
theorem bl_once {m n : Int} (hm : blB m = true) (hn : blB n = true) : (blL m = blL n ∧ blX m = blX n ∧ blY m = blY n) ↔ m = n := by
  constructor
  · rintro ⟨h1, h2, h3⟩
    unfold blL at h1
    unfold blX at h2
    unfold blY at h3
    rw [if_pos hm, if_pos hn] at h1 h2 h3
    have a := bl_iff.1 hm
    have b := bl_iff.1 hn
    split at h1 <;> split at h1 <;> simp_all <;> (try split at h1) <;> (try split at h1) <;> simp_all <;> omega
  · rintro rfl; exact ⟨rfl, rfl, rfl⟩
/-- Does a block want the Double, and at which place? -/
def twoB (n : Int) : Bool := decide (264 ≤ n ∧ n < 65800)
def oneB (n : Int) : Bool := decide (8 ≤ n ∧ n < 264)
def twoN (n : Int) : Nat := ((n - 264) / 256).toNat
theorem twoN_lt {n : Int} (h : twoB n = true) : twoN n < 256 := by
  have := of_decide_eq_true h
  unfold twoN
  omega
/-- Is that place of the Double used? -/
def useB (l : List Int) (k : Nat) : Bool := l.any (fun n => twoB n && decide (twoN n = k))
def useN (l : List Int) : Nat := ((List.range 256).filter (useB l)).length
def mtN (l : List Int) : Nat := (if l.any oneB = true then 1 else 0) + (if l.any twoB = true then 1 else 0) + useN l
theorem filter_flip (p q : Nat → Bool) (N k : Nat) (hk : k < N) (h1 : p k = false) (h2 : q k = true) (h : ∀ j, j ≠ k → q j = p j) : ((List.range N).filter q).length = ((List.range N).filter p).length + 1 := by
  induction N with
  | zero => omega
  | succ N ih =>
    rw [List.range_succ, List.filter_append, List.filter_append, List.length_append, List.length_append]
    by_cases e : k = N
    · subst e
      have e1 : (List.range k).filter q = (List.range k).filter p := List.filter_congr (fun j hj => h j (by have := List.mem_range.1 hj; omega))
      rw [e1]
      simp [h1, h2]
    · rw [ih (by omega)]
      have e2 := h N (fun e' => e e'.symm)
      have e3 : [N].filter q = [N].filter p := List.filter_congr (fun j hj => by rw [List.mem_singleton.1 hj]; exact e2)
      rw [e3]
      omega
theorem use_snoc (l : List Int) (n : Int) (k : Nat) : useB (l ++ [n]) k = (useB l k || (twoB n && decide (twoN n = k))) := by simp [useB]
theorem use_new (l : List Int) (n : Int) (h : twoB n = true) (hu : useB l (twoN n) = false) : useN (l ++ [n]) = useN l + 1 := by
  unfold useN
  refine filter_flip _ _ 256 (twoN n) (twoN_lt h) hu (by rw [use_snoc, h]; simp) (fun j hj => ?_)
  rw [use_snoc, decide_eq_false (fun e => hj e.symm)]
  simp
theorem use_old (l : List Int) (n : Int) (h : twoB n = false ∨ useB l (twoN n) = true) : useN (l ++ [n]) = useN l := by
  unfold useN
  congr 1
  refine List.filter_congr (fun j _ => ?_)
  rw [use_snoc]
  rcases h with h | h
  · rw [h]; simp
  · by_cases e : twoN n = j
    · subst e; rw [h]; simp
    · rw [decide_eq_false e]; simp
/-- The first n blocks. -/
def upto (n : Nat) : List Int := (List.range n).map (fun k : Nat => (k : Int))
theorem upto_succ (n : Nat) : upto (n + 1) = upto n ++ [(n : Int)] := by simp [upto, List.range_succ]
theorem use_upto (n : Nat) (h : n ≤ 65800) (k : Nat) : useB (upto n) k = decide (264 + 256 * k < n ∧ k < 256) := by
  induction n with
  | zero => simp [upto, useB]
  | succ n ih =>
    rw [upto_succ, use_snoc, ih (by omega)]
    rw [Bool.eq_iff_iff]
    have hq : 264 ≤ n → 264 + 256 * twoN n ≤ n ∧ n < 264 + 256 * twoN n + 256 := fun h => by unfold twoN; omega
    simp only [Bool.or_eq_true, Bool.and_eq_true, decide_eq_true_eq, twoB]
    constructor
    · rintro (⟨h1, h2⟩ | ⟨⟨h1, h2⟩, h3⟩)
      · exact ⟨by omega, h2⟩
      · have := hq (by omega)
        exact ⟨by omega, by omega⟩
    · rintro ⟨h1, h2⟩
      by_cases h3 : 264 + 256 * k < n
      · exact .inl ⟨h3, h2⟩
      · have := hq (by omega)
        exact .inr ⟨⟨by omega, by omega⟩, by omega⟩
theorem useN_upto (n : Nat) (h : n ≤ 65800) : useN (upto n) = (n - 264 + 255) / 256 := by
  induction n with
  | zero => simp [useN, useB, upto]
  | succ n ih =>
    rw [upto_succ]
    have hu := use_upto n (by omega) (twoN n)
    by_cases h2 : twoB (n : Int) = true
    · have h3 := of_decide_eq_true h2
      by_cases hd : (n - 264) % 256 = 0
      · rw [use_new _ _ h2 (by rw [hu]; exact decide_eq_false (by unfold twoN; omega)), ih (by omega)]
        omega
      · rw [use_old _ _ (.inr (by rw [hu]; exact decide_eq_true (by unfold twoN; omega))), ih (by omega)]
        omega
    · have h3 : ¬ (264 ≤ (n : Int) ∧ (n : Int) < 65800) := fun e => h2 (decide_eq_true e)
      rw [use_old _ _ (.inl (by simpa using h2)), ih (by omega)]
      omega
theorem any_upto (n : Nat) (p : Int → Bool) : (upto n).any p = true ↔ ∃ k : Nat, k < n ∧ p k = true := by
  simp [upto]
theorem mt_upto (n : Nat) (h : n ≤ 65800) : mtN (upto n) = if 264 < n then 2 + (n - 264 + 255) / 256 else if 8 < n then 1 else 0 := by
  unfold mtN
  rw [useN_upto n h]
  have h1 : (upto n).any oneB = true ↔ 8 < n := by
    rw [any_upto]
    constructor
    · rintro ⟨k, hk, hp⟩
      have := of_decide_eq_true hp
      omega
    · intro hn
      exact ⟨8, hn, rfl⟩
  have h2 : (upto n).any twoB = true ↔ 264 < n := by
    rw [any_upto]
    constructor
    · rintro ⟨k, hk, hp⟩
      have := of_decide_eq_true hp
      omega
    · intro hn
      exact ⟨264, hn, rfl⟩
  by_cases g1 : 264 < n
  · rw [if_pos (h1.2 (by omega)), if_pos (h2.2 g1), if_pos g1]
  · rw [if_neg g1, if_neg (fun e => g1 (h2.1 e))]
    by_cases g2 : 8 < n
    · rw [if_pos (h1.2 g2), if_pos g2]; omega
    · rw [if_neg (fun e => g2 (h1.1 e)), if_neg g2]; omega
end Go.Proofs.YtehaoeclnmelhacGreat
