/-
  Inodes and their bytes: numbers alone.
-/
import Derived.Test.YteegopccpgbakaaDinInodeOf
namespace Go.Proofs.Yteegopccpgbakaa
open Go Go.Proofs Go.RowKit Go.Shelf
namespace Din
/-- The two numbers of two bytes. -/
def halfL (l : List Int) : List Int := [l.getD 0 0, l.getD 1 0]
/-- May an inode be? -/
def fineL (l : List Int) : Bool := kindB (l.getD 0 0) && (fitL 65535 (halfL l) && (fitL 4294967295 (l.drop 2) && (!decide (l.getD 0 0 = 0) || eqB l (zeros 13))))
/-- The bytes of an inode. -/
def inoL (l : List Int) : List Int := leLs 2 (halfL l) ++ leLs 4 (l.drop 2) ++ zeros 16
theorem inoL_length (l : List Int) (hl : l.length = 13) : (inoL l).length = 64 := by
  simp [inoL, leLs_length, halfL, zeros_length, hl]
theorem inoL_bound (l : List Int) : ∀ x ∈ inoL l, 0 ≤ x ∧ x ≤ 255 := by
  intro x hx
  simp only [inoL, List.mem_append] at hx
  rcases hx with (hx | hx) | hx
  · exact leLs_bound _ _ x hx
  · exact leLs_bound _ _ x hx
  · exact zeros_bound _ x hx
theorem ino_put (l : List Int) (hl : l.length = 13) : splice (splice (zeros 64) 0 (leLs 2 (halfL l))) 4 (leLs 4 (l.drop 2)) = inoL l := by
  have h1 := splice_zero 64 [] (leLs 2 (halfL l)) 0 rfl (by simp [leLs_length, halfL])
  simp only [List.nil_append, Nat.sub_zero] at h1
  rw [h1]
  have e4 : 0 + (leLs 2 (halfL l)).length = 4 := by simp [leLs_length, halfL]
  have e44 : (leLs 4 (l.drop 2)).length = 44 := by simp [leLs_length, hl]
  rw [e4, splice_zero 64 (leLs 2 (halfL l)) (leLs 4 (l.drop 2)) 4 (by omega) (by omega), e44]
  rfl
/-- The inode of bytes. -/
def ofB (xs : List Int) : List Int := allL 2 (xs.take 4) ++ allL 4 ((xs.drop 4).take 44)
theorem ofB_length (xs : List Int) (h : xs.length = 64) : (ofB xs).length = 13 := by
  simp [ofB, allL_length, h]
/-- Are bytes those of an inode? -/
def rdB (xs : List Int) : Bool := decide (xs.length = 64) && (fineL (ofB xs) && eqB xs (inoL (ofB xs)))
def rdL (xs : List Int) : List Int := if rdB xs = true then ofB xs else zeros 13
def rdE (xs : List Int) : Int := if rdB xs = true then 0 else 5
theorem rd_yes {xs : List Int} (h : rdB xs = true) : rdL xs = ofB xs ∧ rdE xs = 0 := ⟨if_pos h, if_pos h⟩
theorem rd_no {xs : List Int} (h : rdB xs = false) : rdL xs = zeros 13 ∧ rdE xs = 5 := ⟨if_neg (by simp [h]), if_neg (by simp [h])⟩
theorem rdB_len {xs : List Int} (h : rdB xs = true) : xs.length = 64 := by
  unfold rdB at h
  simp only [Bool.and_eq_true, decide_eq_true_eq] at h
  exact h.1
theorem rdL_length (xs : List Int) : (rdL xs).length = 13 := by
  cases h : rdB xs with
  | false => rw [(rd_no h).1]; exact zeros_length 13
  | true => rw [(rd_yes h).1]; exact ofB_length xs (rdB_len h)
theorem numL_leL (n : Int) (h0 : 0 ≤ n) (h1 : n < 4294967296) : numL (leL n 4) = n := by
  have e : leL n 4 = [n % 256, n / 256 % 256, n / 65536 % 256, n / 16777216 % 256] := by
    simp [leL, List.range_succ]
  rw [e]
  simp only [numL]
  omega
theorem numL_leL2 (n : Int) (h0 : 0 ≤ n) (h1 : n < 65536) : numL (leL n 2) = n := by
  have e : leL n 2 = [n % 256, n / 256 % 256] := by
    simp [leL, List.range_succ]
  rw [e]
  simp only [numL]
  omega
theorem leLs_cons (K : Nat) (x : Int) (r : List Int) : leLs K (x :: r) = leL x K ++ leLs K r := by simp [leLs]
theorem leLs_at (K : Nat) (xs : List Int) (i : Nat) (hi : i < xs.length) : ((leLs K xs).drop (K * i)).take K = leL (xs.getD i 0) K := by
  induction xs generalizing i with
  | nil => simp at hi
  | cons x r ih =>
    rw [leLs_cons]
    cases i with
    | zero =>
      rw [Nat.mul_zero, List.drop_zero, List.take_left' (leL_length _ _)]
      rfl
    | succ i =>
      rw [Nat.mul_succ, Nat.add_comm, ← List.drop_drop, List.drop_left' (leL_length _ _), ih i (by simpa using hi)]
      rfl
theorem allL_leLs (K : Nat) (hK : 0 < K) (xs : List Int) (h : ∀ x ∈ xs, numL (leL x K) = x) : allL K (leLs K xs) = xs := by
  have e : (leLs K xs).length / K = xs.length := by rw [leLs_length, Nat.mul_div_cancel_left _ hK]
  refine List.ext_getElem (by rw [allL_length, e]) (fun i h1 h2 => ?_)
  have hi : i < (leLs K xs).length / K := by rw [e]; exact h2
  have h3 := allL_get K (leLs K xs) i hi
  rw [leLs_at K xs i h2] at h3
  have e4 : (allL K (leLs K xs)).getD i 0 = (allL K (leLs K xs))[i] := by simp [List.getD, List.getElem?_eq_getElem h1]
  have e5 : xs.getD i 0 = xs[i] := by simp [List.getD, List.getElem?_eq_getElem h2]
  rw [e4, e5, h _ (List.getElem_mem h2)] at h3
  exact h3
theorem half_drop (l : List Int) (hl : l.length = 13) : halfL l ++ l.drop 2 = l := by
  obtain ⟨a0, a1, a2, a3, a4, a5, a6, a7, a8, a9, a10, a11, a12, rfl⟩ := list13 l hl
  rfl
theorem fine_parts {l : List Int} (h : fineL l = true) : kindB (l.getD 0 0) = true ∧ (∀ x ∈ halfL l, 0 ≤ x ∧ x ≤ 65535) ∧ (∀ x ∈ l.drop 2, 0 ≤ x ∧ x ≤ 4294967295) := by
  unfold fineL at h
  simp only [Bool.and_eq_true] at h
  exact ⟨h.1, fitL_iff.1 h.2.1, fitL_iff.1 h.2.2.1⟩
theorem ofB_inoL (l : List Int) (hl : l.length = 13) (hf : fineL l = true) : ofB (inoL l) = l := by
  obtain ⟨-, h1, h2⟩ := fine_parts hf
  have e4 : (leLs 2 (halfL l)).length = 4 := by simp [leLs_length, halfL]
  have e44 : (leLs 4 (l.drop 2)).length = 44 := by simp [leLs_length, hl]
  unfold ofB inoL
  rw [List.append_assoc, List.take_left' e4, List.drop_left' e4, List.take_left' e44, allL_leLs 2 (by omega) _ (fun x hx => numL_leL2 x (h1 x hx).1 (by have := (h1 x hx).2; omega)), allL_leLs 4 (by omega) _ (fun x hx => numL_leL x (h2 x hx).1 (by have := (h2 x hx).2; omega))]
  exact half_drop l hl
theorem ino_reads {l : List Int} (hl : l.length = 13) (hf : fineL l = true) : rdB (inoL l) = true ∧ rdL (inoL l) = l ∧ rdE (inoL l) = 0 := by
  have h : rdB (inoL l) = true := by
    unfold rdB
    rw [ofB_inoL l hl hf, hf, inoL_length l hl]
    simp [eqB]
  refine ⟨h, ?_, (rd_yes h).2⟩
  rw [(rd_yes h).1, ofB_inoL l hl hf]
end Din
end Go.Proofs.Yteegopccpgbakaa
