/-
  What a write leaves and a read finds, byte for byte.
-/
import Derived.Test.YtehaoeclnmelhacGreatTrRead
namespace Go.Proofs.YtehaoeclnmelhacGreat
open Go Go.Proofs Go.RowKit Go.Shelf

/-- The byte of a block. -/
def byteD (p : List (Int × List Int)) (x : Int) (a : Nat) : Int := match getP p x with
  | none => 0
  | some d => d.getD a 0
/-- The byte of a file. -/
def byteP (p : List (Int × List Int)) (i : Int) : Int := byteD p (i / 1024) (i % 1024).toNat
theorem byteP_nil (i : Int) : byteP [] i = 0 := rfl
theorem splice_getD {xs ys : List Int} {o : Nat} (h : o + ys.length ≤ xs.length) (i : Nat) : (splice xs o ys).getD i 0 = if o ≤ i ∧ i < o + ys.length then ys.getD (i - o) 0 else xs.getD i 0 := by
  unfold splice
  simp only [List.getD]
  by_cases h1 : i < o
  · rw [if_neg (by omega), List.getElem?_append_left (by rw [List.length_take]; omega), List.getElem?_take, if_pos h1]
  · rw [List.getElem?_append_right (by rw [List.length_take]; omega), List.length_take, Nat.min_eq_left (by omega)]
    by_cases h2 : i < o + ys.length
    · rw [if_pos ⟨by omega, h2⟩, List.getElem?_append_left (by omega)]
    · rw [if_neg (by omega), List.getElem?_append_right (by omega), List.getElem?_drop, show o + ys.length + (i - o - ys.length) = i by omega]
theorem find_append_none {α : Type} {A B : List α} {q : α → Bool} (h : ∀ x ∈ A, q x = false) : (A ++ B).find? q = B.find? q := by
  rw [List.find?_append, List.find?_eq_none.2 (fun x hx => by rw [h x hx]; simp)]
  rfl
theorem find_flt {p : List (Int × List Int)} {y : Int} {P : Int × List Int → Bool} (h : ∀ q : Int × List Int, q.1 = y → P q = true) : (p.filter P).find? (fun q => decide (q.1 = y)) = p.find? (fun q => decide (q.1 = y)) := by
  rw [List.find?_filter]
  congr 1
  funext q
  by_cases e : q.1 = y
  · simp [e, h q e]
  · simp [e]
theorem getP_put (x y : Int) (d : List Int) (p : List (Int × List Int)) : getP (putP x d p) y = if y = x then some d else getP p y := by
  unfold getP putP
  by_cases e : y = x
  · subst e
    rw [if_pos rfl, find_append_none (fun q hq => by
      have := (List.mem_filter.1 hq).2
      simp only [decide_eq_true_eq] at this
      simp only [decide_eq_false_iff_not]
      omega), List.find?_cons_of_pos (by simp)]
    rfl
  · rw [if_neg e]
    rcases Int.lt_or_lt_of_ne e with h | h
    · rw [List.find?_append, find_flt (fun q hq => by simp only [decide_eq_true_eq]; omega)]
      cases hf : p.find? (fun q => decide (q.1 = y)) with
      | some v => rfl
      | none =>
        rw [List.find?_cons_of_neg (by simp only [decide_eq_true_eq]; omega), List.find?_eq_none.2 (fun q hq => by
          have := (List.mem_filter.1 hq).2
          simp only [decide_eq_true_eq] at this ⊢
          omega)]
        rfl
    · rw [find_append_none (fun q hq => by
        have := (List.mem_filter.1 hq).2
        simp only [decide_eq_true_eq] at this
        simp only [decide_eq_false_iff_not]
        omega), List.find?_cons_of_neg (by simp only [decide_eq_true_eq]; omega), find_flt (fun q hq => by simp only [decide_eq_true_eq]; omega)]
/-- Every row is as long as a block. -/
def fullP (p : List (Int × List Int)) : Prop := ∀ x d, getP p x = some d → d.length = 1024
theorem fullP_of {p : List (Int × List Int)} (h : ∀ x ∈ p, x.2.length = 1024) : fullP p := fun x d hd => by
  unfold getP at hd
  cases hf : p.find? (fun q => decide (q.1 = x)) with
  | none => rw [hf] at hd; cases hd
  | some v =>
    rw [hf] at hd
    cases hd
    exact h v (List.mem_of_find?_eq_some hf)
theorem wrSeg_len {off : Int} {xs : List Int} (h0 : 0 ≤ off) {k : Nat} (hk : k < pzN off xs.length) : (wrSeg off xs.length xs k).length = (pzF off xs.length (k + 1) - pzF off xs.length k).toNat := by
  obtain ⟨p0, p1, p2, p3, p4, p5, p6, p7, p8, p9⟩ := pz_in h0 (show (0 : Int) ≤ (xs.length : Int) by omega) hk
  unfold wrSeg
  rw [List.length_take, List.length_drop]
  omega
theorem wr_full {off : Int} {xs : List Int} (h0 : 0 ≤ off) {p : List (Int × List Int)} (hp : fullP p) {k : Nat} (hk : k ≤ pzN off xs.length) : fullP (wrP off xs.length xs p k) := by
  induction k with
  | zero => exact hp
  | succ k ih =>
    have ih := ih (by omega)
    obtain ⟨p0, p1, p2, p3, p4, p5, p6, p7, p8, p9⟩ := pz_in h0 (show (0 : Int) ≤ (xs.length : Int) by omega) (show k < pzN off xs.length by omega)
    have hs := wrSeg_len (xs := xs) h0 (show k < pzN off xs.length by omega)
    intro x d hd
    rw [wrP, getP_put] at hd
    split at hd
    · cases hd
      have hl : ((getP (wrP off xs.length xs p k) (pzB off k)).getD (zeros 1024)).length = 1024 := by
        cases hg : getP (wrP off xs.length xs p k) (pzB off k) with
        | none => exact zeros_length _
        | some d => exact ih _ _ hg
      unfold wrRow
      rw [length_splice _ _ _ (by omega), hl]
    · exact ih x d hd
theorem zeros_getD (n i : Nat) : (zeros n).getD i 0 = 0 := by
  unfold zeros
  simp only [List.getD, List.getElem?_replicate]
  split <;> rfl
theorem byteD_row (p : List (Int × List Int)) (x : Int) (a : Nat) : byteD p x a = ((getP p x).getD (zeros 1024)).getD a 0 := by
  unfold byteD
  cases getP p x with
  | none => exact (zeros_getD _ _).symm
  | some d => rfl
theorem wr_byte {off : Int} {xs : List Int} (h0 : 0 ≤ off) {p : List (Int × List Int)} (hp : fullP p) {k : Nat} (hk : k ≤ pzN off xs.length) (i : Int) : byteP (wrP off xs.length xs p k) i = if off ≤ i ∧ i < off + pzF off xs.length k then xs.getD (i - off).toNat 0 else byteP p i := by
  induction k with
  | zero => rw [if_neg (by unfold pzF; simp)]; rfl
  | succ k ih =>
    have ih := ih (by omega)
    have hf := wr_full (xs := xs) h0 hp (k := k) (by omega)
    obtain ⟨p0, p1, p2, p3, p4, p5, p6, p7, p8, p9⟩ := pz_in h0 (show (0 : Int) ≤ (xs.length : Int) by omega) (show k < pzN off xs.length by omega)
    have hs := wrSeg_len (xs := xs) h0 (show k < pzN off xs.length by omega)
    have hl : ((getP (wrP off xs.length xs p k) (pzB off k)).getD (zeros 1024)).length = 1024 := by
      cases hg : getP (wrP off xs.length xs p k) (pzB off k) with
      | none => exact zeros_length _
      | some d => exact hf _ _ hg
    unfold byteP at ih ⊢
    rw [byteD_row] at ih ⊢
    rw [wrP, getP_put]
    by_cases e : i / 1024 = pzB off k
    · rw [if_pos e, Option.getD_some]
      unfold wrRow
      rw [splice_getD (by omega), hs]
      rw [e] at ih
      by_cases h2 : (pzA off k).toNat ≤ (i % 1024).toNat ∧ (i % 1024).toNat < (pzA off k).toNat + (pzF off xs.length (k + 1) - pzF off xs.length k).toNat
      · rw [if_pos h2, if_pos (by omega)]
        unfold wrSeg
        simp only [List.getD, List.getElem?_take, List.getElem?_drop]
        rw [if_pos (by omega)]
        congr 2
        omega
      · rw [if_neg h2, ih]
        by_cases h3 : off ≤ i ∧ i < off + pzF off xs.length k
        · rw [if_pos h3, if_pos (by omega)]
        · rw [if_neg h3, if_neg (by omega), e]
    · rw [if_neg e, ih]
      by_cases h3 : off ≤ i ∧ i < off + pzF off xs.length k
      · rw [if_pos h3, if_pos (by omega)]
      · rw [if_neg h3, if_neg (by omega)]
/-- What no run has reached is nought. -/
theorem rd_zero {off : Int} {L : Nat} (h0 : 0 ≤ off) {p : List (Int × List Int)} (hp : ∀ x ∈ p, x.2.length = 1024) {k : Nat} (hk : k ≤ pzN off L) (i : Nat) (hi : pzF off L k ≤ (i : Int)) : (rdP off L p k).getD i 0 = 0 := by
  induction k with
  | zero => exact zeros_getD _ _
  | succ k ih =>
    have hl := rd_len (L := L) h0 (p := p) (k := k) (by omega)
    obtain ⟨p0, p1, p2, p3, p4, p5, p6, p7, p8, p9⟩ := pz_in h0 (show (0 : Int) ≤ (L : Int) by omega) (show k < pzN off L by omega)
    have ih := ih (by omega) (by omega)
    rw [rdP]
    cases hg : getP p (pzB off k) with
    | none => exact ih
    | some d =>
      have hd := fullP_of hp _ _ hg
      simp only
      rw [splice_getD (by rw [List.length_take, List.length_drop]; omega), if_neg (by rw [List.length_take, List.length_drop]; omega)]
      exact ih
theorem rd_byte {off : Int} {L : Nat} (h0 : 0 ≤ off) {p : List (Int × List Int)} (hp : ∀ x ∈ p, x.2.length = 1024) {k : Nat} (hk : k ≤ pzN off L) (i : Nat) (hi : (i : Int) < pzF off L k) : (rdP off L p k).getD i 0 = byteP p (off + i) := by
  induction k with
  | zero => unfold pzF at hi; simp at hi; omega
  | succ k ih =>
    have ih := ih (by omega)
    have hl := rd_len (L := L) h0 (p := p) (k := k) (by omega)
    obtain ⟨p0, p1, p2, p3, p4, p5, p6, p7, p8, p9⟩ := pz_in h0 (show (0 : Int) ≤ (L : Int) by omega) (show k < pzN off L by omega)
    rw [rdP]
    by_cases h1 : (i : Int) < pzF off L k
    · rw [← ih h1]
      cases hg : getP p (pzB off k) with
      | none => rfl
      | some d =>
        have hd := fullP_of hp _ _ hg
        simp only
        rw [splice_getD (by rw [List.length_take, List.length_drop]; omega), if_neg (by omega)]
    · have e : (off + i) / 1024 = pzB off k := by omega
      unfold byteP byteD
      rw [e]
      cases hg : getP p (pzB off k) with
      | none =>
        simp only
        exact rd_zero h0 hp (by omega) i (by omega)
      | some d =>
        have hd := fullP_of hp _ _ hg
        simp only
        rw [splice_getD (by rw [List.length_take, List.length_drop]; omega), if_pos (by rw [List.length_take, List.length_drop]; omega)]
        simp only [List.getD, List.getElem?_take, List.getElem?_drop]
        rw [if_pos (by omega)]
        congr 2
        omega
end Go.Proofs.YtehaoeclnmelhacGreat
