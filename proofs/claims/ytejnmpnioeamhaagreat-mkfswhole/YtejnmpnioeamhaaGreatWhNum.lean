/-
  What lies where in an empty file system's image: numbers alone.
-/
import Derived.Test.YtejnmpnioeamhaaGreatMkAlive
namespace Go.Proofs.YtejnmpnioeamhaaGreat
open Go Go.Proofs Go.RowKit Go.Shelf
namespace Mk
open Sup (superL headL maskL nI nD)
open Din (inoL fineL inoV)
open Ent (blockL okB)
/-- So many bytes from a place on. -/
def piece (xs : List Int) (p m : Nat) : List Int := (xs.drop p).take m
theorem piece_length (xs : List Int) (p m : Nat) (h : p + m ≤ xs.length) : (piece xs p m).length = m := by
  unfold piece
  simp
  omega
theorem piece_left (xs ys : List Int) (p m : Nat) (h : p + m ≤ xs.length) : piece (xs ++ ys) p m = piece xs p m := by
  unfold piece
  rw [List.drop_append_of_le_length (by omega), List.take_append_of_le_length (by simp; omega)]
theorem piece_right (xs ys : List Int) (p m : Nat) (h : xs.length ≤ p) : piece (xs ++ ys) p m = piece ys (p - xs.length) m := by
  unfold piece
  rw [List.drop_append, List.drop_of_length_le h, List.nil_append]
theorem piece_zeros (n p m : Nat) (h : p + m ≤ n) : piece (zeros n) p m = zeros m := by
  unfold piece zeros
  simp
  omega
theorem piece_all (xs : List Int) (m : Nat) (h : xs.length = m) : piece xs 0 m = xs := by
  unfold piece
  rw [List.drop_zero, List.take_of_length_le (by omega)]
theorem piece_piece (xs : List Int) (p m q l : Nat) (h : q + l ≤ m) : piece (piece xs p m) q l = piece xs (p + q) l := by
  unfold piece
  rw [List.drop_take, List.drop_drop, List.take_take, Nat.min_eq_left (by omega)]
/-- A row written over with what stands there is as it was. -/
theorem splice_same (xs ys : List Int) (p : Nat) (h : piece xs p ys.length = ys) : splice xs p ys = xs := by
  unfold splice
  unfold piece at h
  have e : ys ++ xs.drop (p + ys.length) = xs.drop p := by
    conv => rhs; rw [← List.take_append_drop ys.length (xs.drop p), h, List.drop_drop]
  rw [e, List.take_append_drop]
theorem splice_split (xs ys : List Int) (o : Nat) : splice xs o ys = (xs.take o ++ ys) ++ xs.drop (o + ys.length) := by
  unfold splice
  simp
theorem piece_before (xs ys : List Int) (o p m : Nat) (h : o + ys.length ≤ xs.length) (hp : p + m ≤ o) : piece (splice xs o ys) p m = piece xs p m := by
  rw [splice_split xs ys o, List.append_assoc, piece_left _ _ _ _ (by simp; omega)]
  conv => rhs; rw [← List.take_append_drop o xs]
  rw [piece_left _ _ _ _ (by simp; omega)]
theorem piece_behind (xs ys : List Int) (o p m : Nat) (h : o + ys.length ≤ xs.length) (hp : o + ys.length ≤ p) : piece (splice xs o ys) p m = piece xs p m := by
  have hl : (xs.take o ++ ys).length = o + ys.length := by simp; omega
  rw [splice_split xs ys o, piece_right _ _ _ _ (by omega), hl]
  unfold piece
  rw [List.drop_drop, show o + ys.length + (p - (o + ys.length)) = p by omega]
theorem piece_in (xs ys : List Int) (o : Nat) (h : o + ys.length ≤ xs.length) : piece (splice xs o ys) o ys.length = ys := by
  have hl : (xs.take o).length = o := by simp; omega
  rw [splice_split xs ys o, List.append_assoc, piece_right _ _ _ _ (by omega), hl, Nat.sub_self, piece_left _ _ _ _ (by omega), piece_all _ _ rfl]
set_option maxRecDepth 100000 in
theorem ref_head (G I D : Int) (hI : 0 ≤ I) (hD : 0 ≤ D) (k K : Nat) (h : k < K) : piece (refL G I D K) ((1 + k * perN I D) * 1024) 1024 = headL k I D (onL k) (onL k) := by
  induction K with
  | zero => omega
  | succ K ih =>
    have hl := refL_length G I D hI hD K
    have hh := Sup.headL_length K I D (onL K) (onL K)
    by_cases hk : k < K
    · have h2 : (k + 1) * perN I D ≤ K * perN I D := Nat.mul_le_mul_right _ hk
      have h3 : 1 ≤ perN I D := by unfold perN; omega
      rw [Nat.succ_mul] at h2
      rw [refL, List.append_assoc, piece_left _ _ _ _ (by rw [hl]; omega)]
      exact ih hk
    · obtain rfl : k = K := by omega
      rw [refL, List.append_assoc, piece_right _ _ _ _ (by rw [hl]; exact Nat.le_refl _), hl, Nat.sub_self, piece_left _ _ _ _ (by rw [hh]; omega), piece_all _ _ hh]
set_option maxRecDepth 100000 in
theorem ref_free (G I D : Int) (hI : 0 ≤ I) (hD : 0 ≤ D) (k K p m : Nat) (h : k < K) (h1 : (1 + k * perN I D + 1) * 1024 ≤ p) (h2 : p + m ≤ (1 + (k + 1) * perN I D) * 1024) : piece (refL G I D K) p m = zeros m := by
  induction K with
  | zero => omega
  | succ K ih =>
    have hl := refL_length G I D hI hD K
    have hh := Sup.headL_length K I D (onL K) (onL K)
    by_cases hk : k < K
    · have h3 : (k + 1) * perN I D ≤ K * perN I D := Nat.mul_le_mul_right _ hk
      rw [refL, List.append_assoc, piece_left _ _ _ _ (by rw [hl]; omega)]
      exact ih hk
    · obtain rfl : k = K := by omega
      have e : perN I D = 1 + (I + D).toNat := by unfold perN; omega
      have h3 : (k + 1) * perN I D = k * perN I D + 1 + (I + D).toNat := by rw [Nat.succ_mul, e]; omega
      have hl2 : (refL G I D k ++ headL k I D (onL k) (onL k)).length = (1 + k * perN I D + 1) * 1024 := by
        rw [List.length_append, hl, hh]
        omega
      rw [refL, piece_right _ _ _ _ (by rw [hl2]; exact h1), hl2, piece_zeros _ _ _ (by omega)]
set_option maxRecDepth 100000 in
theorem ref_super (G I D : Int) (K : Nat) : piece (refL G I D K) 0 1024 = superL G I D := by
  induction K with
  | zero => exact piece_all _ _ (Sup.superL_length G I D)
  | succ K ih =>
    have hl : 1024 ≤ (refL G I D K).length := by
      clear ih
      induction K with
      | zero => rw [refL, Sup.superL_length]; omega
      | succ K ih => rw [refL, List.length_append, List.length_append]; omega
    rw [refL, List.append_assoc, piece_left _ _ _ _ (by omega)]
    exact ih
/-- What an image is made of, and where. -/
structure ImgIs (G I D : Int) (xs : List Int) : Prop where
  len : xs.length = totN G I D * 1024
  bound : ∀ x ∈ xs, 0 ≤ x ∧ x ≤ 255
  super : piece xs 0 1024 = superL G I D
  root : piece xs 2048 64 = inoL (rootL I)
  dots : piece xs ((2 + I).toNat * 1024) 1024 = blockL dotsL
  head : ∀ k : Nat, (k : Int) < G → piece xs ((1 + k * perN I D) * 1024) 1024 = headL k I D (onL k) (onL k)
  free : ∀ k j : Nat, (k : Int) < G → (j : Int) < 16 * I → 0 < k + j → piece xs ((1 + k * perN I D + 1) * 1024 + j * 64) 64 = zeros 64
theorem refL_bound (G I D : Int) (K : Nat) : ∀ x ∈ refL G I D K, 0 ≤ x ∧ x ≤ 255 := by
  induction K with
  | zero => exact Sup.superL_bound G I D
  | succ K ih =>
    intro x h
    rw [refL, List.mem_append, List.mem_append] at h
    rcases h with (h | h) | h
    · exact ih x h
    · exact Sup.headL_bound _ _ _ _ _ (onL_bound K) (onL_bound K) x h
    · exact zeros_bound _ x h
theorem dots_bound : ∀ x ∈ blockL dotsL, 0 ≤ x ∧ x ≤ 255 := by
  intro x h
  unfold blockL at h
  rw [List.mem_append] at h
  rcases h with h | h
  · exact Ent.catL_bound dotsL (by decide) x h
  · exact zeros_bound _ x h
set_option maxRecDepth 100000 in
theorem img_is {G I D : Int} (hg : good G I D = true) : ImgIs G I D (imgL G I D) := by
  have hb := good_iff.1 hg
  obtain ⟨-, t2, t3, t4⟩ := tot_is hg
  have h1 := refL_full hg
  have hil := Din.inoL_length (rootL I) rfl
  have hdl := Ent.blockL_length ok_dots
  have h2 : (splice (refL G I D G.toNat) 2048 (inoL (rootL I))).length = totN G I D * 1024 := by
    rw [splice_length _ _ _ (by rw [h1, hil]; omega), h1]
  have hs1 : 2048 + (inoL (rootL I)).length ≤ (refL G I D G.toNat).length := by rw [h1, hil]; omega
  have hs2 : (2 + I).toNat * 1024 + (blockL dotsL).length ≤ (splice (refL G I D G.toNat) 2048 (inoL (rootL I))).length := by rw [h2, hdl]; omega
  have hper : perN I D = (1 + I + D).toNat := rfl
  refine ⟨imgL_length hg, ?_, ?_, ?_, ?_, ?_, ?_⟩
  · exact splice_bound _ _ _ (splice_bound _ _ _ (refL_bound G I D _) (Din.inoL_bound _)) dots_bound
  · unfold imgL
    rw [piece_before _ _ _ _ _ hs2 (by omega), piece_before _ _ _ _ _ hs1 (by omega), ref_super]
  · unfold imgL
    rw [piece_before _ _ _ _ _ hs2 (by omega)]
    have h := piece_in (refL G I D G.toNat) (inoL (rootL I)) 2048 hs1
    rwa [hil] at h
  · unfold imgL
    have h := piece_in (splice (refL G I D G.toNat) 2048 (inoL (rootL I))) (blockL dotsL) ((2 + I).toNat * 1024) hs2
    rwa [hdl] at h
  · intro k hk
    have hr := ref_head G I D (by omega) (by omega) k G.toNat (by omega)
    unfold imgL
    by_cases h0 : k = 0
    · subst h0
      rw [piece_before _ _ _ _ _ hs2 (by omega), piece_before _ _ _ _ _ hs1 (by omega), hr]
    · have h3 : 1 * perN I D ≤ k * perN I D := Nat.mul_le_mul_right _ (by omega)
      rw [piece_behind _ _ _ _ _ hs2 (by rw [hdl]; omega), piece_behind _ _ _ _ _ hs1 (by rw [hil]; omega), hr]
  · intro k j hk hj h0
    have hj2 : (k + 1) * perN I D = k * perN I D + perN I D := Nat.succ_mul _ _
    have hr := ref_free G I D (by omega) (by omega) k G.toNat ((1 + k * perN I D + 1) * 1024 + j * 64) 64 (by omega) (by omega) (by omega)
    unfold imgL
    by_cases hk0 : k = 0
    · subst hk0
      rw [piece_before _ _ _ _ _ hs2 (by omega), piece_behind _ _ _ _ _ hs1 (by rw [hil]; omega), hr]
    · have h3 : 1 * perN I D ≤ k * perN I D := Nat.mul_le_mul_right _ (by omega)
      rw [piece_behind _ _ _ _ _ hs2 (by rw [hdl]; omega), piece_behind _ _ _ _ _ hs1 (by rw [hil]; omega), hr]
end Mk
end Go.Proofs.YtejnmpnioeamhaaGreat
