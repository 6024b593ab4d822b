/-
  Rows of nodes that came in: their slots and blocks; which are one.
-/
import Derived.Test.YtbahbhaoimabdaaLayNm
import Derived.Below
import Derived.Laws.StructEq
import Derived.Lib.QuietBelow
import Derived.Laws.OwnMore
import Derived.Deep.Cut
import Derived.Deep.CutRange
import Derived.Deep.CutBlock
namespace Go.Proofs.Ytbahbhaoimabdaa
open Go Go.Proofs Go.RowKit Go.Shelf

structure EnV where
  ino : Int
  nm : ByteArray
structure PaV where
  at' : Int
  ao : Option Addr
  m : Nat
  cc : Nat
  xs : List Int
structure NoV where
  ino : Int
  kind : Int
  links : Int
  size : Int
  bo : Option Addr
  bn : Nat
  bc : Nat
  P : Nat → PaV
  so : Option Addr
  sn : Nat
  sc : Nat
  E : Nat → EnV
def PaV.wf (p : PaV) : Prop := p.m ≤ p.cc ∧ p.cc ≤ 9223372036854775807 ∧ (p.ao = none → p.m = 0 ∧ p.cc = 0) ∧ ∀ x ∈ p.xs, 0 ≤ x ∧ x ≤ 255
/-- A row of slots that came in. -/
def EnAt (W : World) (ao : Option Addr) (n : Nat) (E : Nat → EnV) : Prop :=
  0 < n → ∃ b o, ao = some ⟨b, o, none⟩ ∧ b < W.heap.size ∧ ∀ j, j < n → W.cell? ⟨b, o + j * 2, none⟩ = some (.int .i64 (E j).ino) ∧ W.cell? ⟨b, o + j * 2 + 1, none⟩ = some (.string (E j).nm)
/-- A row of blocks that came in. -/
def PaAt (W : World) (ao : Option Addr) (n : Nat) (P : Nat → PaV) : Prop :=
  0 < n → ∃ b o, ao = some ⟨b, o, none⟩ ∧ b < W.heap.size ∧ ∀ j, j < n → (W.cell? ⟨b, o + j * 2, none⟩ = some (.int .i64 (P j).at') ∧ W.cell? ⟨b, o + j * 2 + 1, none⟩ = some (.slice (P j).ao (P j).m (P j).cc)) ∧ BAt W (P j).ao (P j).m (P j).xs ∧ (P j).wf
def NoV.wf (x : NoV) : Prop := x.bn ≤ 9223372036854775807 ∧ x.sn ≤ 9223372036854775807 ∧ (Lit.int .i64 x.ino).wf = true ∧ ∀ j, j < x.sn → (Lit.int .i64 (x.E j).ino).wf = true
/-- A row of nodes that came in. -/
def NoAt (W : World) (ao : Option Addr) (n : Nat) (N : Nat → NoV) : Prop :=
  0 < n → ∃ b o, ao = some ⟨b, o, none⟩ ∧ b < W.heap.size ∧ ∀ j, j < n → (W.cell? ⟨b, o + j * 6, none⟩ = some (.int .i64 (N j).ino) ∧ W.cell? ⟨b, o + j * 6 + 1, none⟩ = some (.int .i64 (N j).kind) ∧ W.cell? ⟨b, o + j * 6 + 2, none⟩ = some (.int .i64 (N j).links) ∧ W.cell? ⟨b, o + j * 6 + 3, none⟩ = some (.int .i64 (N j).size) ∧ W.cell? ⟨b, o + j * 6 + 4, none⟩ = some (.slice (N j).bo (N j).bn (N j).bc) ∧ W.cell? ⟨b, o + j * 6 + 5, none⟩ = some (.slice (N j).so (N j).sn (N j).sc)) ∧ PaAt W (N j).bo (N j).bn (N j).P ∧ EnAt W (N j).so (N j).sn (N j).E ∧ (N j).wf
theorem EnAt.blw {W W' : World} {ao : Option Addr} {n : Nat} {E : Nat → EnV} (h : EnAt W ao n E) (hB : Below W.heap.size W W') : EnAt W' ao n E := fun hn => by
  obtain ⟨b, o, e, hl, hc⟩ := h hn
  have hk := fun (i : Nat) => World.cell?_of_block (w := W) (w' := W') (a := ⟨b, i, none⟩) (hB.block b hl)
  exact ⟨b, o, e, Nat.lt_of_lt_of_le hl hB.size, fun j hj => ⟨(hk _).trans (hc j hj).1, (hk _).trans (hc j hj).2⟩⟩
theorem PaAt.blw {W W' : World} {ao : Option Addr} {n : Nat} {P : Nat → PaV} (h : PaAt W ao n P) (hB : Below W.heap.size W W') : PaAt W' ao n P := fun hn => by
  obtain ⟨b, o, e, hl, hc⟩ := h hn
  have hk := fun (i : Nat) => World.cell?_of_block (w := W) (w' := W') (a := ⟨b, i, none⟩) (hB.block b hl)
  exact ⟨b, o, e, Nat.lt_of_lt_of_le hl hB.size, fun j hj => ⟨⟨(hk _).trans (hc j hj).1.1, (hk _).trans (hc j hj).1.2⟩, (hc j hj).2.1.only (Only.of_new (fun _ => False) hB) (fun _ _ _ h => h), (hc j hj).2.2⟩⟩
theorem NoAt.blw {W W' : World} {ao : Option Addr} {n : Nat} {N : Nat → NoV} (h : NoAt W ao n N) (hB : Below W.heap.size W W') : NoAt W' ao n N := fun hn => by
  obtain ⟨b, o, e, hl, hc⟩ := h hn
  have hk := fun (i : Nat) => World.cell?_of_block (w := W) (w' := W') (a := ⟨b, i, none⟩) (hB.block b hl)
  exact ⟨b, o, e, Nat.lt_of_lt_of_le hl hB.size, fun j hj => by
    obtain ⟨⟨x0, x1, x2, x3, x4, x5⟩, hp, he, hw⟩ := hc j hj
    exact ⟨⟨(hk _).trans x0, (hk _).trans x1, (hk _).trans x2, (hk _).trans x3, (hk _).trans x4, (hk _).trans x5⟩, hp.blw hB, he.blw hB, hw⟩⟩
/-! which are one -/
def rowB (n : Nat) (f : Nat → Bool) : Bool := (List.range n).all f
theorem rowB_no {n : Nat} {f : Nat → Bool} {j : Nat} (hj : j < n) (h : f j = false) : rowB n f = false := by
  unfold rowB
  rw [List.all_eq_false]
  exact ⟨j, List.mem_range.2 hj, by rw [h]; simp⟩
theorem rowB_yes {n : Nat} {f : Nat → Bool} (h : ∀ j, j < n → f j = true) : rowB n f = true := List.all_eq_true.2 (fun j hj => h j (List.mem_range.1 hj))
theorem rowB_congr {n : Nat} {f g : Nat → Bool} (h : ∀ j, j < n → f j = g j) : rowB n f = rowB n g := by
  cases e : rowB n g with
  | true => exact rowB_yes (fun j hj => by rw [h j hj]; exact List.all_eq_true.1 e j (List.mem_range.2 hj))
  | false =>
    obtain ⟨j, hj, hf⟩ := List.all_eq_false.1 e
    exact rowB_no (List.mem_range.1 hj) (by rw [h j (List.mem_range.1 hj)]; simpa using hf)
def sameE (x y : EnV) : Bool := decide (x.ino = y.ino) && decide (x.nm = y.nm)
def sameP (x y : PaV) : Bool := decide (x.at' = y.at') && decide (strOfNums x.xs = strOfNums y.xs)
def sameH (x y : NoV) : Bool := decide (x.ino = y.ino) && decide (x.kind = y.kind) && decide (x.links = y.links) && decide (x.size = y.size) && decide (x.sn = y.sn) && decide (x.bn = y.bn)
def sameN (x y : NoV) : Bool := sameH x y && rowB x.sn (fun k => sameE (x.E k) (y.E k)) && rowB x.bn (fun k => sameP (x.P k) (y.P k))
def sameL (n : Nat) (N : Nat → NoV) (m : Nat) (M : Nat → NoV) : Bool := decide (n = m) && rowB n (fun j => sameN (N j) (M j))
theorem sameE_comm (x y : EnV) : sameE x y = sameE y x := by simp [sameE, eq_comm]
theorem sameP_comm (x y : PaV) : sameP x y = sameP y x := by simp [sameP, eq_comm]
theorem sameH_comm (x y : NoV) : sameH x y = sameH y x := by simp [sameH, eq_comm]
theorem sameH_len {x y : NoV} (h : sameH x y = true) : x.sn = y.sn ∧ x.bn = y.bn := by simp [sameH] at h; exact ⟨h.1.2, h.2⟩
theorem sameN_comm (x y : NoV) : sameN x y = sameN y x := by
  unfold sameN
  rw [sameH_comm]
  cases h : sameH y x with
  | false => simp
  | true =>
    obtain ⟨e1, e2⟩ := sameH_len h
    rw [e1, e2, rowB_congr (fun j _ => sameE_comm (x.E j) (y.E j)), rowB_congr (fun j _ => sameP_comm (x.P j) (y.P j))]
theorem sameN_refl (x : NoV) : sameN x x = true := by
  unfold sameN
  rw [rowB_yes (fun j _ => by simp [sameE]), rowB_yes (fun j _ => by simp [sameP])]
  simp [sameH]
theorem sameL_comm (n : Nat) (N : Nat → NoV) (m : Nat) (M : Nat → NoV) : sameL n N m M = sameL m M n N := by
  unfold sameL
  by_cases h : n = m
  · subst h
    rw [rowB_congr (fun j _ => sameN_comm (N j) (M j))]
  · rw [decide_eq_false h, decide_eq_false (fun e => h e.symm)]; rfl
theorem sameL_refl (n : Nat) (N : Nat → NoV) : sameL n N n N = true := by
  unfold sameL
  rw [rowB_yes (fun j _ => sameN_refl (N j))]
  simp
end Go.Proofs.Ytbahbhaoimabdaa
