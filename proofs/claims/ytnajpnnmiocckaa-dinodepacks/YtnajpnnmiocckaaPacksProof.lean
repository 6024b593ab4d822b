/-
  Proved here: lockgatelaw5.DinodePacks, called with any inode, returns true, leaves its argument as it was, and turns nothing that lay in memory: the bytes of every inode, or that it has none, are what the document says, and they are read as the inode (P501). Conditions: none.
-/
import Derived.Test.YtnajpnnmiocckaaRows
import Derived.Test.YtnajpnnmiocckaaPacksWalk
import Derived.WalkKit
import Derived.ProofKit
import Derived.OpenShut
import Derived.ShutString
import Derived.ChangeOld
import Derived.Below
import Derived.Lib.SmallJoins
namespace Go.Proofs.Ytnajpnnmiocckaa.dinodePacks
open Go.ChangeShapes Go.WideShapes Go.ChangeAt Go.RowKit Go.Joins
open Go.ChangeMaps (open_string shut_string)
set_option linter.unusedVariables false

theorem own : ownKnob Try.prog.godebug = none := by kernel_rfl
theorem laidOut : laidOutB Try.prog = true := by kernel_rfl
theorem cells24 : Try.prog.cellsOf 24 = 13 := by kernel_rfl
theorem array13 {α : Type} {cs : Array α} (h : cs.size = 13) : ∃ c0 c1 c2 c3 c4 c5 c6 c7 c8 c9 c10 c11 c12, cs = #[c0, c1, c2, c3, c4, c5, c6, c7, c8, c9, c10, c11, c12] := by
  obtain ⟨l⟩ := cs
  match l, h with
  | [c0, c1, c2, c3, c4, c5, c6, c7, c8, c9, c10, c11, c12], _ => exact ⟨c0, c1, c2, c3, c4, c5, c6, c7, c8, c9, c10, c11, c12, rfl⟩
section
variable {H : Type} {enc : TypeId × Value → H} {w : World} {base b0 : Nat} {spare : Nat → Bool} {held : Bool} {r : Reach}
theorem one_int {n : Nat} {c : Value} {y : Option (DataW H × List MemPlace)} (hy : ∃ z, y = some z) (h : DataW.trod enc Try.prog w base spare held n 3 [c] = y) : ∃ a : Int, c = .int .i64 a := by
  obtain ⟨z, rfl⟩ := hy
  obtain ⟨a, e, -, -⟩ := DataW.trod_int Try.underlying3 h
  simp at e
  exact ⟨a, e⟩
/-- An inode that came in: thirteen numbers. -/
theorem open_ino {v : Value} {d : DataW H} {p : List MemPlace} (hv : Value.okWide Try.prog w r b0 24 v) (h : DataW.Trod enc Try.prog w base spare held 24 v d p) : ∃ l : List Int, v = inoV l ∧ l.length = 13 := by
  obtain ⟨cs, rfl, hsz⟩ := okWide_struct Try.underlying24 hv
  rw [cells24] at hsz
  obtain ⟨c0, c1, c2, c3, c4, c5, c6, c7, c8, c9, c10, c11, c12, rfl⟩ := array13 hsz
  obtain ⟨fuel, hf⟩ := h
  obtain ⟨xs, n, -, -, -, hlen, hfs⟩ := DataW.trod_struct Try.underlying24 hf
  simp at hlen
  have hx : ∀ i, i < 6 → ∃ z, xs[i]? = some z := fun i hi => ⟨_, List.getElem?_eq_getElem (by omega)⟩
  have f0 := hfs 0 _ rfl
  have f1 := hfs 1 _ rfl
  have f2 := hfs 2 _ rfl
  have f3 := hfs 3 _ rfl
  have f4 := hfs 4 _ rfl
  have f5 := hfs 5 _ rfl
  obtain ⟨a0, rfl⟩ := one_int (hx 0 (by omega)) f0
  obtain ⟨a1, rfl⟩ := one_int (hx 1 (by omega)) f1
  obtain ⟨a2, rfl⟩ := one_int (hx 2 (by omega)) f2
  obtain ⟨a11, rfl⟩ := one_int (hx 4 (by omega)) f4
  obtain ⟨a12, rfl⟩ := one_int (hx 5 (by omega)) f5
  obtain ⟨z3, hz3⟩ := hx 3 (by omega)
  rw [hz3] at f3
  obtain ⟨ys, m, -, -, -, hyl, hfy⟩ := DataW.trod_array Try.underlying22 f3
  have hy : ∀ i, i < 8 → ∃ z, ys[i]? = some z := fun i hi => ⟨_, List.getElem?_eq_getElem (by omega)⟩
  have g0 := hfy 0 (by omega)
  have g1 := hfy 1 (by omega)
  have g2 := hfy 2 (by omega)
  have g3 := hfy 3 (by omega)
  have g4 := hfy 4 (by omega)
  have g5 := hfy 5 (by omega)
  have g6 := hfy 6 (by omega)
  have g7 := hfy 7 (by omega)
  obtain ⟨a3, rfl⟩ := one_int (hy 0 (by omega)) g0
  obtain ⟨a4, rfl⟩ := one_int (hy 1 (by omega)) g1
  obtain ⟨a5, rfl⟩ := one_int (hy 2 (by omega)) g2
  obtain ⟨a6, rfl⟩ := one_int (hy 3 (by omega)) g3
  obtain ⟨a7, rfl⟩ := one_int (hy 4 (by omega)) g4
  obtain ⟨a8, rfl⟩ := one_int (hy 5 (by omega)) g5
  obtain ⟨a9, rfl⟩ := one_int (hy 6 (by omega)) g6
  obtain ⟨a10, rfl⟩ := one_int (hy 7 (by omega)) g7
  exact ⟨[a0, a1, a2, a3, a4, a5, a6, a7, a8, a9, a10, a11, a12], rfl, rfl⟩
end


theorem walk (l : List Int) (hl : l.length = 13) (w : World) :
    Calls Try.prog 3 #[inoV l] w fun e w' => e = .returned (.bool true) ∧ Below w.heap.size w w' :=
  packs_any w l hl

/-! ### THE ROW's STEP -/
set_option maxRecDepth 100000 in
theorem lifted (os : Os) (started : os.Started) (H : Type) (enc : TypeId × Value → H) :
    ReturnsInHanded {} Try.checked os 3 .any (Rows.dinodePacksSpec.pre6 enc Try.prog Try.f3 Rows.dinodePacksRow.domain false) (Rows.dinodePacksSpec.post enc Try.prog Try.f3 false true false false) := by
  refine returnsInHanded_of_change (C := Try.checked) own started (by kernel_rfl) Try.func3
    (ChangeSpec.witness6 (enc := enc) (C := Try.checked) false ⟨#[], #[.agg #[.int .i64 0, .int .i64 0, .int .i64 0, .int .i64 0, .int .i64 0, .int .i64 0, .int .i64 0, .int .i64 0, .int .i64 0, .int .i64 0, .int .i64 0, .int .i64 0, .int .i64 0]], []⟩ 8 (by kernel_rfl) (by kernel_rfl) (by kernel_rfl) (by kernel_rfl)) ?_
  intro W base args ds gs before hval0 hW hcnd _
  have hval : ∀ (j : Nat) t v, Try.f3.params[j]? = some t → args[j]? = some v → Value.okWide Try.prog W .any base t v := hval0
  have hW' := hW
  obtain ⟨p, q, hA0, hV, rfl, hfz, hnd⟩ := hW
  have hA : DataW.TrodAll enc Try.prog W 0 (fun _ => true) true Try.f3.params.toList args.toList ds p := hA0
  rw [Try.params3] at hA hval
  obtain ⟨v0, vs0, d0, ds0, p0, q0, hargs, rfl, rfl, h0, r0⟩ := trodAll_cons hA
  obtain ⟨rfl, rfl, rfl⟩ := trodAll_nil r0
  obtain rfl : args = #[v0] := by cases args; simp_all
  obtain ⟨rfl, rfl⟩ := trodVars_none hV
  have k0 := h0
  have lt0 : ∀ x ∈ p0, x.block < W.heap.size := by obtain ⟨m, hm⟩ := k0; exact DataW.trod_lt m _ _ _ hm
  obtain ⟨l0, e0, g0⟩ := open_ino (hval 0 24 v0 rfl rfl) h0
  subst e0
  clear hA0 hval0
  refine (walk l0 g0 W).mono fun e W' ⟨he, bel⟩ => ?_
  subst he
  exact ⟨_, rfl, _, _, _, [], _, [], hW', trodAll_mk1 (shut_bool Try.underlying4 _), (trodAll_cons_mk (Below.trod laidOut (by kernel_rfl) (of_decide_eq_true (by kernel_rfl)) k0 bel lt0) trodAll_mk0), rfl, bel.frame _, fun h => by cases h⟩

theorem over : Rows.dinodePacksRow.holds Try.pinned (OpenSpec.ofChange Rows.dinodePacksSpec) :=
  OpenClaim.holds_of_wide 3 Try.f3 rfl rfl rfl rfl rfl rfl rfl ⟨rfl, rfl, rfl, rfl, rfl⟩ rfl rfl rfl rfl rfl (by kernel_rfl) Try.func3 (by kernel_rfl)
    (of_decide_eq_true (by kernel_rfl)) (by unfold Func.isWrapper; first | (rw [if_pos (by decide +kernel)]; kernel_rfl) | (rw [if_neg (by decide +kernel)]; exact ⟨rfl, rfl⟩))
    (fun os started H enc _ => lifted os started H enc)

end Go.Proofs.Ytnajpnnmiocckaa.dinodePacks

namespace Go.Proofs.Ytnajpnnmiocckaa
theorem packs_holds : Rows.DinodePacksSaid := dinodePacks.over
#print axioms packs_holds
end Go.Proofs.Ytnajpnnmiocckaa
