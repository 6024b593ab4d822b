/-
  A chain of directories: its paths, and where they lead (lists alone).
-/
import Derived.Test.YtbahbhaoimabdaaWkRFind
namespace Go.Proofs.Ytbahbhaoimabdaa
open Go Go.Proofs Go.RowKit Go.Shelf

/-- That many d. -/
def dS : Nat → ByteArray
  | 0 => ⟨#[]⟩
  | k + 1 => dS k ++ ⟨#[100]⟩
theorem dS_size (k : Nat) : (dS k).size = k := by
  induction k with
  | zero => rfl
  | succ k ih => rw [dS, ByteArray.size_append, ih]; rfl
theorem ofS_append (a b : ByteArray) : ofS (a ++ b) = ofS a ++ ofS b := by
  simp [ofS]
theorem dS_of (k : Nat) : ofS (dS k) = List.replicate k 100 := by
  induction k with
  | zero => rfl
  | succ k ih => rw [dS, ofS_append, ih, List.replicate_succ']; rfl
/-- The path of so many parts, all alike. -/
def pthB (s : ByteArray) : Nat → ByteArray
  | 0 => ⟨#[]⟩
  | i + 1 => catB (pthB s i) s
theorem pthB_size (s : ByteArray) (i : Nat) : (pthB s i).size = i * (s.size + 1) := by
  induction i with
  | zero => rw [Nat.zero_mul]; rfl
  | succ i ih => rw [pthB, catB_size, ih, Nat.add_mul]; omega
/-- A chain: each node but the last is a directory with the next one. -/
structure Chain (s : ByteArray) (n : Nat) (Nd : Nat → NoV) : Prop where
  ino : ∀ i, i ≤ n → (Nd i).ino = (i : Int) + 1
  dir : ∀ i, i < n → (Nd i).kind = 2 ∧ (Nd i).sn = 1 ∧ (Nd i).E 0 = ⟨(i : Int) + 2, s⟩
  last : (Nd n).kind = 1 ∧ (Nd n).sn = 0
theorem Chain.first {s : ByteArray} {n : Nat} {Nd : Nat → NoV} (h : Chain s n Nd) {i : Nat} (hi : i ≤ n) : firstN (n + 1) Nd ((i : Int) + 1) = some i := by
  refine range_hit (by omega) (by simp [h.ino i hi]) (fun j hj => ?_)
  have := h.ino j (by omega)
  simp [this]
  omega
theorem Chain.into {s : ByteArray} {n : Nat} {Nd : Nat → NoV} (h : Chain s n Nd) : ∀ (f i : Nat) (G : Gone), i < n → 501 ≤ (pthB s i).size + f → (∀ j, i < j → j ≤ n → G j = false) → (intoS (n + 1) Nd f G i (pthB s i)).1 = (List.range' (i + 1) (min n (500 / (s.size + 1)) - i)).map (pthB s) := by
  intro f
  induction f with
  | zero =>
    intro i G hi hf hG
    rw [pthB_size] at hf
    have h1 : 500 / (s.size + 1) < i + 1 := by
      rw [Nat.div_lt_iff_lt_mul (by omega), Nat.add_mul]
      omega
    rw [show min n (500 / (s.size + 1)) - i = 0 by omega]
    rfl
  | succ f ih =>
    intro i G hi hf hG
    obtain ⟨d1, d2, d3⟩ := h.dir i hi
    rw [intoS, d2, slotS, slotS, d3]
    unfold stepS
    have hsz : (pthB s i).size + 1 + s.size = (i + 1) * (s.size + 1) := by rw [pthB_size, Nat.add_mul]; omega
    by_cases hc : 500 < (i + 1) * (s.size + 1)
    · rw [if_pos (.inr (by dsimp only; omega))]
      have h1 : 500 / (s.size + 1) < i + 1 := (Nat.div_lt_iff_lt_mul (by omega)).2 hc
      rw [show min n (500 / (s.size + 1)) - i = 0 by omega]
      rfl
    · rw [if_neg (by dsimp only; omega)]
      have h1 : i + 1 ≤ 500 / (s.size + 1) := (Nat.le_div_iff_mul_le (by omega)).2 (by omega)
      have hf1 : firstN (n + 1) Nd ((i : Int) + 2) = some (i + 1) := by
        have := h.first (i := i + 1) (by omega)
        rwa [show (((i + 1 : Nat) : Int) + 1) = (i : Int) + 2 by omega] at this
      dsimp only
      rw [hf1]
      dsimp only
      rw [show min n (500 / (s.size + 1)) - i = (min n (500 / (s.size + 1)) - (i + 1)) + 1 by omega, List.range'_succ, List.map_cons]
      by_cases hl : i + 1 < n
      · have hg : goneF G i (i + 1) = false := by
          unfold goneF
          rw [if_neg (by omega)]
          exact hG (i + 1) (by omega) (by omega)
        rw [if_pos ⟨(h.dir (i + 1) hl).1, hg⟩]
        have := ih (i + 1) (goneF G i) hl (by rw [pthB_size] at hf ⊢; rw [Nat.add_mul]; omega) (fun j h1 h2 => by
          unfold goneF
          rw [if_neg (by omega)]
          exact hG j (by omega) h2)
        rw [pthB] at this
        rw [List.nil_append, this]
        rfl
      · obtain rfl : i + 1 = n := by omega
        rw [if_neg (fun x => by have := h.last.1; omega)]
        rw [show min (i + 1) (500 / (s.size + 1)) - (i + 1) = 0 by omega]
        rfl
theorem Chain.paths {s : ByteArray} {n : Nat} {Nd : Nat → NoV} (h : Chain s n Nd) (hn : 1 ≤ n) : pathsS (n + 1) Nd = (List.range' 1 (min n (500 / (s.size + 1)))).map (pthB s) := by
  unfold pathsS
  have h1 := h.first (i := 0) (by omega)
  rw [show (((0 : Nat) : Int) + 1) = 1 by omega] at h1
  rw [h1]
  dsimp only
  rw [if_pos (h.dir 0 (by omega)).1]
  exact h.into 501 0 noG (by omega) (Nat.le_add_left _ _) (fun _ _ _ => rfl)
theorem Chain.ref {s : ByteArray} {n : Nat} {Nd : Nat → NoV} (h : Chain s n Nd) (q : Nat) : ∀ a, a + q ≤ n → refF (n + 1) Nd a (List.replicate q s) = (a + q, 0) := by
  induction q with
  | zero => intro a _; rfl
  | succ q ih =>
    intro a ha
    obtain ⟨d1, d2, d3⟩ := h.dir a (by omega)
    have hs : slotN (Nd a) s = some 0 := range_hit (by omega) (by rw [d3]; simp [slotB]; omega) (fun i hi => by omega)
    have hf1 : firstN (n + 1) Nd ((a : Int) + 2) = some (a + 1) := by
      have := h.first (i := a + 1) (by omega)
      rwa [show (((a + 1 : Nat) : Int) + 1) = (a : Int) + 2 by omega] at this
    rw [List.replicate_succ, refF, if_neg (fun x => x d1), hs]
    dsimp only
    rw [d3]
    dsimp only
    rw [hf1]
    dsimp only
    rw [ih (a + 1) (by omega), show a + 1 + q = a + (q + 1) by omega]
theorem pth_of (s : ByteArray) (i : Nat) : ofS (pthB s (i + 1)) = 47 :: (ofS s ++ ofS (pthB s i)) := by
  induction i with
  | zero => simp [pthB, catB, ofS_append]; simp [ofS]
  | succ i ih =>
    have e : ofS (pthB s (i + 1 + 1)) = ofS (pthB s (i + 1)) ++ 47 :: ofS s := by
      rw [pthB, catB, ofS_append, ofS_append]
      simp [ofS]
    have e2 : ofS (pthB s (i + 1)) = ofS (pthB s i) ++ 47 :: ofS s := by
      rw [pthB, catB, ofS_append, ofS_append]
      simp [ofS]
    have e3 := e2.symm.trans ih
    rw [e, ih, List.cons_append, List.append_assoc, e3]
theorem pth_pieces (s : ByteArray) (hs : (47 : UInt8) ∉ ofS s) (i : Nat) : pieces (ofS s ++ ofS (pthB s i)) = List.replicate (i + 1) (ofS s) := by
  induction i with
  | zero => simp [pthB, ofS]; exact pieces_none hs
  | succ i ih =>
    rw [pth_of, pieces_first _ hs, ih]
    rfl
theorem may_d : ∀ k, k < 28 → 1 ≤ k → mayB (List.replicate k 100) = true := by decide
theorem Chain.find {k n : Nat} {Nd : Nat → NoV} (h : Chain (dS k) n Nd) (h1 : 1 ≤ k) (h2 : k < 28) (i : Nat) (hi : i + 1 ≤ n) (hsz : (i + 1) * (k + 1) ≤ 500) : findS (n + 1) Nd (pthB (dS k) (i + 1)) = (i + 1, 0) := by
  have hno : (47 : UInt8) ∉ ofS (dS k) := by
    rw [dS_of]
    intro hx
    have := List.eq_of_mem_replicate hx
    cases this
  have hne : ofS (dS k) ++ ofS (pthB (dS k) i) ≠ [] := by
    rw [dS_of]
    cases k with
    | zero => omega
    | succ k => simp [List.replicate_succ]
  have hlen : (ofS (dS k) ++ ofS (pthB (dS k) i)).length < 500 := by
    rw [List.length_append, ofS_length, ofS_length, dS_size, pthB_size, dS_size]
    rw [Nat.add_mul] at hsz
    omega
  have hp : partsL (ofS (dS k) ++ ofS (pthB (dS k) i)) = List.replicate (i + 1) (ofS (dS k)) := by
    unfold partsL
    rw [if_neg hne]
    exact pth_pieces _ hno i
  have hsp : splitL (ofS (pthB (dS k) (i + 1))) = some (List.replicate (i + 1) (ofS (dS k))) := by
    have hall : (partsL (ofS (dS k) ++ ofS (pthB (dS k) i))).all mayB = true := by
      rw [hp, List.all_eq_true]
      intro x hx
      rw [List.eq_of_mem_replicate hx, dS_of]
      exact may_d k h2 h1
    rw [pth_of]
    unfold splitL
    dsimp only
    rw [if_pos ⟨rfl, hlen, hall⟩, hp]
  rw [findS_ref, hsp]
  dsimp only
  have h0 := h.first (i := 0) (by omega)
  rw [show (((0 : Nat) : Int) + 1) = 1 by omega] at h0
  rw [h0]
  dsimp only
  rw [List.map_replicate, mk_of, h.ref (i + 1) 0 (by omega), Nat.zero_add]
end Go.Proofs.Ytbahbhaoimabdaa
