/-
  Rows of ints in memory; Fits, Put and All of the program.
-/
import Derived.Test.YtbahbhaoimabdaaPuts
namespace Go.Proofs.Ytbahbhaoimabdaa
open Go Go.Proofs Go.RowKit Go.Shelf
/-- Ints as cells. -/
def Iy (xs : List Int) : List Value := xs.map (Value.int .i64)
theorem Iy_length (xs : List Int) : (Iy xs).length = xs.length := by simp [Iy]
theorem Iy_get (xs : List Int) (i : Nat) (h : i < xs.length) : (Iy xs)[i]? = some (.int .i64 (xs.getD i 0)) := by simp [Iy, List.getD, List.getElem?_eq_getElem h]
theorem Iy_one (xs : List Int) : ∀ u ∈ Iy xs, u.oneCell' = true := by
  intro u hu
  obtain ⟨x, _, rfl⟩ := List.mem_map.1 hu
  rfl
theorem Iy_setArr (xs : List Int) (i : Nat) (y : Int) : (Iy xs).toArray.setIfInBounds i (.int .i64 y) = (Iy (xs.set i y)).toArray := by
  simp [Iy]
/-- A slice of ints as it lies in a world. -/
def LAt (W : World) (ao : Option Addr) (n : Nat) (xs : List Int) : Prop :=
  xs.length = n ∧ (0 < n → ∃ a, ao = some a ∧ a.block < W.heap.size ∧ ∀ i, i < n → W.cell? (a.add i) = some (.int .i64 (xs.getD i 0)))
set_option maxRecDepth 100000 in
theorem LAt.only {S : Nat → Prop} {W W' : World} {ao : Option Addr} {n : Nat} {xs : List Int} (h : LAt W ao n xs) (ho : Only S W W') (hS : ∀ a, ao = some a → a.block < W.heap.size → ¬ S a.block) : LAt W' ao n xs := by
  refine ⟨h.1, fun hn => ?_⟩
  obtain ⟨a, e, hlt, hc⟩ := h.2 hn
  refine ⟨a, e, Nat.lt_of_lt_of_le hlt ho.size, fun i hi => ?_⟩
  rw [World.cell?_of_block (w := W) (by rw [add_block]; exact ho.block _ hlt (hS a e hlt))]
  exact hc i hi
theorem LAt.at {W : World} {ao : Option Addr} {n : Nat} {xs : List Int} (h : LAt W ao n xs) (i : Nat) (hi : i < n) : ∃ a, ao = some a ∧ W.cell? (a.add i) = some (.int .i64 (xs.getD i 0)) := by
  obtain ⟨a, e, _, hc⟩ := h.2 (by omega)
  exact ⟨a, e, hc i hi⟩
theorem getD_mem {xs : List Int} {i : Nat} (h : i < xs.length) : xs.getD i 0 ∈ xs := by
  simp [List.getD, List.getElem?_eq_getElem h]
/-- Numbers in so many bytes each. -/
def leLs (K : Nat) (xs : List Int) : List Int := xs.flatMap (fun x => leL x K)
theorem leLs_snoc (K : Nat) (xs : List Int) (x : Int) : leLs K (xs ++ [x]) = leLs K xs ++ leL x K := by simp [leLs]
set_option maxRecDepth 100000 in
theorem leLs_length (K : Nat) (xs : List Int) : (leLs K xs).length = K * xs.length := by
  induction xs with
  | nil => simp [leLs]
  | cons x r ih =>
    have e : leLs K (x :: r) = leL x K ++ leLs K r := by simp [leLs]
    rw [e, List.length_append, ih, leL_length, List.length_cons, Nat.mul_succ, Nat.add_comm]
theorem leLs_bound (K : Nat) (xs : List Int) : ∀ x ∈ leLs K xs, 0 ≤ x ∧ x ≤ 255 := by
  intro x hx
  obtain ⟨y, _, h⟩ := List.mem_flatMap.1 hx
  exact leL_bound _ _ x h
/-- Are all of them from 0 to m? -/
def fitL (m : Int) (xs : List Int) : Bool := xs.all (fitB m)
theorem fitL_iff {m : Int} {xs : List Int} : fitL m xs = true ↔ ∀ x ∈ xs, 0 ≤ x ∧ x ≤ m := by
  simp [fitL, fitB]
theorem fitL_no {m : Int} {xs : List Int} {k : Nat} (hk : k < xs.length) (h : fitB m (xs.getD k 0) = false) : fitL m xs = false := by
  cases hh : fitL m xs with
  | false => rfl
  | true =>
    have := fitL_iff.1 hh _ (getD_mem hk)
    rw [fitB_iff.2 this] at h
    cases h
set_option maxRecDepth 100000 in
theorem fitL_all {m : Int} {xs : List Int} (h : ∀ k, k < xs.length → fitB m (xs.getD k 0) = true) : fitL m xs = true := by
  refine fitL_iff.2 (fun x hx => ?_)
  obtain ⟨i, hi, rfl⟩ := List.getElem_of_mem hx
  have := h i hi
  rw [show xs.getD i 0 = xs[i] by simp [List.getD, List.getElem?_eq_getElem hi]] at this
  exact fitB_iff.1 this
end Go.Proofs.Ytbahbhaoimabdaa
