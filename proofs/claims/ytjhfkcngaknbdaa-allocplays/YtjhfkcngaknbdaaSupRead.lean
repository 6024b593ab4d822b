/-
  Read of the program, ReadSuper of the reference.
-/
import Derived.Test.YtjhfkcngaknbdaaSupPack
import Derived.Deep.Cut
import Derived.Deep.CutRange
import Derived.Deep.CutBlock
namespace Go.Proofs.Ytjhfkcngaknbdaa
open Go Go.Proofs Go.RowKit Go.Shelf
namespace Sup
/-- The three numbers of a superblock's bytes. -/
def gOf (xs : List Int) : Int := numL ((xs.drop 8).take 4)
def iOf (xs : List Int) : Int := numL ((xs.drop 12).take 4)
def dOf (xs : List Int) : Int := numL ((xs.drop 16).take 4)
/-- Is it a superblock? -/
def rdB (xs : List Int) : Bool := decide (xs.length = 1024) && (good (gOf xs) (iOf xs) (dOf xs) && eqB xs (superL (gOf xs) (iOf xs) (dOf xs)))
def rdV (xs : List Int) : Value := if rdB xs = true then geo (gOf xs) (iOf xs) (dOf xs) else geo 0 0 0
def rdE (xs : List Int) : Int := if rdB xs = true then 0 else 4
theorem rd_yes {xs : List Int} (h : rdB xs = true) : rdV xs = geo (gOf xs) (iOf xs) (dOf xs) ∧ rdE xs = 0 := ⟨if_pos h, if_pos h⟩
theorem rd_no {xs : List Int} (h : rdB xs = false) : rdV xs = geo 0 0 0 ∧ rdE xs = 4 := ⟨if_neg (by simp [h]), if_neg (by simp [h])⟩
set_option maxRecDepth 100000 in
theorem num4_bound (xs : List Int) (h : ∀ x ∈ xs, 0 ≤ x ∧ x ≤ 255) (o : Nat) : 0 ≤ numL ((xs.drop o).take 4) ∧ numL ((xs.drop o).take 4) < 4294967296 := by
  have h1 := numL_bound ((xs.drop o).take 4) (take_bound _ (drop_bound xs h o) 4)
  have h2 : ((xs.drop o).take 4).length ≤ 4 := List.length_take_le _ _
  refine ⟨h1.1, Int.lt_of_lt_of_le h1.2 ?_⟩
  have : (256 : Int) ^ ((xs.drop o).take 4).length ≤ 256 ^ 4 := by
    generalize ((xs.drop o).take 4).length = k at h2
    match k, h2 with
    | 0, _ => decide
    | 1, _ => decide
    | 2, _ => decide
    | 3, _ => decide
    | 4, _ => decide
  exact this
section
variable {P : Program} {ops : Array Oper} {Q : Exit → Act → World → Prop} {md : Region.Mode} {S : World → Prop} {fuel : Nat} {listed : Array Bool} {t : Array Value} {w : World}
end
theorem store_geo_run (X : World) (G I D a b c : Int) : (Instr.storeAt 23 (.pointer (some ⟨X.heap.size, 0, none⟩)) (geo G I D)).run Try.prog (X.alloc (.cells #[.int .i64 a, .int .i64 b, .int .i64 c] 23)) = .ok () (X.alloc (.cells #[.int .i64 G, .int .i64 I, .int .i64 D] 23)) := by
  go_simp
end Sup
end Go.Proofs.Ytjhfkcngaknbdaa
