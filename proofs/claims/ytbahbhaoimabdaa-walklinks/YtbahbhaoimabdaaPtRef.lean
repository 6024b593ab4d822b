/-
  Split of the reference.
-/
import Derived.Test.YtbahbhaoimabdaaLayPt
namespace Go.Proofs.Ytbahbhaoimabdaa
open Go Go.Proofs Go.RowKit Go.Shelf

/-- Between two rounds: these parts are told, the next one begins at f, k is looked at. -/
structure RQ (l r : List UInt8) (L : List (List UInt8)) (f k : Nat) : Prop where
  f1 : 1 ≤ f
  fk : f ≤ k
  kN : k ≤ l.length + 1
  both : (f ≤ l.length ∧ k ≤ l.length) ∨ (f = l.length + 1 ∧ k = l.length + 1)
  all : ∀ p ∈ L, mayB p = true
  come : pieces r = L ++ toCome (decide (f ≤ l.length)) (l.drop f)
  no : (47 : UInt8) ∉ (l.take k).drop f
theorem RQ.start (r : List UInt8) : RQ (47 :: r) r [] 1 1 := by
  refine ⟨Nat.le_refl _, Nat.le_refl _, by simp, .inl ⟨by simp, by simp⟩, fun p hp => (by cases hp), ?_, by simp⟩
  simp [toCome]
theorem RQ.next {l r : List UInt8} {L : List (List UInt8)} {f k : Nat} (h : RQ l r L f k) (hk : k < l.length) (h47 : l.getD k 0 ≠ 47) : RQ l r L f (k + 1) := by
  have hb := h.both
  refine ⟨h.f1, by have := h.fk; omega, by omega, .inl ⟨by omega, by omega⟩, h.all, h.come, ?_⟩
  rw [List.take_add_one, List.getElem?_eq_getElem hk]
  have e : l.getD k 0 = l[k] := by simp [List.getD, List.getElem?_eq_getElem hk]
  rw [e] at h47
  rw [List.drop_append_of_le_length (by simp; have := h.fk; omega)]
  simp only [Option.toList_some, List.mem_append, List.mem_singleton, not_or]
  exact ⟨h.no, fun e => h47 e.symm⟩
/-- The part that ends here. -/
def rqP (l : List UInt8) (f k : Nat) : List UInt8 := (l.take k).drop f
theorem drop_split (l : List UInt8) (f k : Nat) (h : f ≤ k) : l.drop f = rqP l f k ++ l.drop k := by
  unfold rqP
  rcases Nat.lt_or_ge l.length k with h2 | h2
  · rw [List.take_of_length_le (by omega), show l.drop k = [] from List.drop_eq_nil_of_le (by omega), List.append_nil]
  · conv => lhs; rw [← List.take_append_drop k l]
    rw [List.drop_append_of_le_length (by simp; omega)]
theorem RQ.part {l r : List UInt8} {L : List (List UInt8)} {f k : Nat} (h : RQ l r L f k) (hk : k ≤ l.length) (h47 : k < l.length → l.getD k 0 = 47) : pieces r = (L ++ [rqP l f k]) ++ toCome (decide (k + 1 ≤ l.length)) (l.drop (k + 1)) := by
  have hb := h.both
  have hno : (47 : UInt8) ∉ rqP l f k := h.no
  have hf : f ≤ l.length := by omega
  rw [h.come, List.append_assoc]
  congr 1
  rw [decide_eq_true hf, drop_split l f k h.fk]
  unfold toCome
  rw [if_pos rfl]
  rcases Nat.lt_or_ge k l.length with h1 | h1
  · have e : l.drop k = 47 :: l.drop (k + 1) := by
      rw [List.drop_eq_getElem_cons h1]
      congr 1
      have := h47 h1
      simpa [List.getD, List.getElem?_eq_getElem h1] using this
    rw [e, pieces_first _ hno, if_pos (decide_eq_true (show k + 1 ≤ l.length from h1))]
    rfl
  · rw [List.drop_eq_nil_of_le h1, List.append_nil, pieces_none hno, if_neg (by simp; omega)]
    rfl
theorem RQ.step {l r : List UInt8} {L : List (List UInt8)} {f k : Nat} (h : RQ l r L f k) (hk : k ≤ l.length) (h47 : k < l.length → l.getD k 0 = 47) (hm : mayB (rqP l f k) = true) : RQ l r (L ++ [rqP l f k]) (k + 1) (k + 1) := by
  refine ⟨by omega, Nat.le_refl _, by omega, by omega, ?_, h.part hk h47, by simp⟩
  intro p hp
  rcases List.mem_append.1 hp with hp | hp
  · exact h.all p hp
  · rw [List.mem_singleton.1 hp]; exact hm
theorem RQ.bad {l r : List UInt8} {L : List (List UInt8)} {f k : Nat} (h : RQ l r L f k) (hk : k ≤ l.length) (h47 : k < l.length → l.getD k 0 = 47) (hl : l = 47 :: r) (hr : r ≠ []) (hm : mayB (rqP l f k) = false) : splitL l = none := by
  have hp := h.part hk h47
  subst hl
  simp only [splitL]
  rw [if_neg]
  rintro ⟨_, _, hall⟩
  unfold partsL at hall
  rw [if_neg hr, List.all_eq_true] at hall
  have := hall (rqP (47 :: r) f k) (by rw [hp]; simp)
  rw [hm] at this
  cases this
theorem RQ.done {l r : List UInt8} {L : List (List UInt8)} {f k : Nat} (h : RQ l r L f k) (hk : ¬ k ≤ l.length) (hl : l = 47 :: r) (hr : r ≠ []) (h500 : l.length ≤ 500) : splitL l = some L := by
  have hb := h.both
  have hf : ¬ f ≤ l.length := by omega
  have hp := h.come
  rw [decide_eq_false hf] at hp
  simp [toCome] at hp
  subst hl
  have e : partsL r = L := by unfold partsL; rw [if_neg hr, hp]
  simp only [splitL]
  rw [e, if_pos ⟨trivial, by simp at h500; omega, List.all_eq_true.2 h.all⟩]
end Go.Proofs.Ytbahbhaoimabdaa
