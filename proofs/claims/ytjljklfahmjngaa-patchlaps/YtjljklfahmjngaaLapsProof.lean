/-
  Proved here: lockgatelaw14.PatchLaps, called with any two changes, returns true, and turns nothing that lay in memory: Lap tells whether they have a place in common as the reference does, and the same the other way round (P1401). Conditions: none.
-/
import Derived.Test.YtjljklfahmjngaaRows
import Derived.Test.YtjljklfahmjngaaPaLaps
import Derived.WalkKit
import Derived.ProofKit
import Derived.OpenShut
import Derived.ShutString
import Derived.ChangeOld
import Derived.Below
import Derived.Lib.SmallJoins
import Derived.Deep.Strs
namespace Go.Proofs.Ytjljklfahmjngaa.patchLaps
open Go.ChangeShapes Go.WideShapes Go.ChangeAt Go.RowKit Go.Joins
open Go.ChangeMaps (open_string shut_string)
set_option linter.unusedVariables false

theorem own : ownKnob Try.prog.godebug = none := by kernel_rfl
theorem laidOut : laidOutB Try.prog = true := by kernel_rfl
section
variable {H : Type} {enc : TypeId × Value → H} {w : World} {base b0 : Nat} {spare : Nat → Bool} {held : Bool} {r : Reach}
/-- A change that came in. -/
theorem open_patch {v : Value} {d : DataW H} {p : List MemPlace} (hv : Value.okWide Try.prog w r b0 31 v) (h : DataW.Trod enc Try.prog w base spare held 31 v d p) : ∃ (i a : Int) (ao : Option Addr) (n c : Nat), v = paV i a (.slice ao n c) ∧ I64 a := by
  obtain ⟨v0, v1, v2, y0, y1, y2, n, rfl, -, -, h0, h1, h2⟩ := open_agg3 Try.underlying31 (by kernel_rfl) (by kernel_rfl) hv h
  obtain ⟨i, e0, -, -⟩ := DataW.trod_int Try.underlying3 h0
  obtain ⟨a, e1, -, hw⟩ := DataW.trod_int Try.underlying3 h1
  simp at e0 e1
  subst e0 e1
  rcases DataW.trod_slice Try.underlying22 h2 with ⟨hh, -⟩ | ⟨x, len, cap, elems, rest, m, _, hh, -⟩
  · simp at hh
    subst hh
    exact ⟨i, a, none, 0, 0, rfl, bounds_i64 hw⟩
  · simp at hh
    subst hh
    exact ⟨i, a, some x, len, cap, rfl, bounds_i64 hw⟩
end


theorem walk (i0 a0 : Int) (b0 : Option Addr) (m0 c0 : Nat) (i1 a1 : Int) (b1 : Option Addr) (m1 c1 : Nat) (h0 : I64 a0) (h1 : I64 a1) (w : World) :
    Calls Try.prog 4 #[paV i0 a0 (.slice b0 m0 c0), paV i1 a1 (.slice b1 m1 c1)] w fun e w' => e = .returned (.bool true) ∧ Below w.heap.size w w' :=
  laps_any w i0 i1 a0 a1 b0 b1 m0 m1 c0 c1 h0 h1

/-! ### THE ROW's STEP -/
set_option maxRecDepth 100000 in
theorem lifted (os : Os) (started : os.Started) (H : Type) (enc : TypeId × Value → H) :
    ReturnsInHanded {} Try.checked os 4 .any (Rows.patchLapsSpec.pre6 enc Try.prog Try.f4 Rows.patchLapsRow.domain false) (Rows.patchLapsSpec.post enc Try.prog Try.f4 false true false false) := by
  refine returnsInHanded_of_change (C := Try.checked) own started (by kernel_rfl) Try.func4
    (ChangeSpec.witness6 (enc := enc) (C := Try.checked) false ⟨#[], #[.agg #[.int .i64 0, .int .i64 0, .slice none 0 0], .agg #[.int .i64 0, .int .i64 0, .slice none 0 0]], []⟩ 8 (by kernel_rfl) (by kernel_rfl) (by kernel_rfl) (by kernel_rfl)) ?_
  intro W base args ds gs before hval0 hW hcnd _
  have hval : ∀ (j : Nat) t v, Try.f4.params[j]? = some t → args[j]? = some v → Value.okWide Try.prog W .any base t v := hval0
  have hW' := hW
  obtain ⟨p, q, hA0, hV, rfl, hfz, hnd⟩ := hW
  have hA : DataW.TrodAll enc Try.prog W 0 (fun _ => true) true Try.f4.params.toList args.toList ds p := hA0
  rw [Try.params4] at hA hval
  obtain ⟨v0, vs0, d0, ds0, p0, q0, hargs, rfl, rfl, h0, r0⟩ := trodAll_cons hA
  obtain ⟨v1, vs1, d1, ds1, p1, q1, rfl, rfl, rfl, h1, r1⟩ := trodAll_cons r0
  obtain ⟨rfl, rfl, rfl⟩ := trodAll_nil r1
  obtain rfl : args = #[v0, v1] := by cases args; simp_all
  obtain ⟨rfl, rfl⟩ := trodVars_none hV
  have k0 := h0
  have lt0 : ∀ x ∈ p0, x.block < W.heap.size := by obtain ⟨m, hm⟩ := k0; exact DataW.trod_lt m _ _ _ hm
  obtain ⟨i0, a0, b0, m0, c0, e0, g0⟩ := open_patch (hval 0 31 v0 rfl rfl) h0
  subst e0
  have k1 := h1
  have lt1 : ∀ x ∈ p1, x.block < W.heap.size := by obtain ⟨m, hm⟩ := k1; exact DataW.trod_lt m _ _ _ hm
  obtain ⟨i1, a1, b1, m1, c1, e1, g1⟩ := open_patch (hval 1 31 v1 rfl rfl) h1
  subst e1
  clear hA0 hval0
  refine (walk i0 a0 b0 m0 c0 i1 a1 b1 m1 c1 g0 g1 W).mono fun e W' ⟨he, bel⟩ => ?_
  subst he
  exact ⟨_, rfl, _, _, _, [], _, [], hW', trodAll_mk1 (shut_bool Try.underlying4 _), (trodAll_cons_mk (Below.trod laidOut (by kernel_rfl) (of_decide_eq_true (by kernel_rfl)) k0 bel lt0) (trodAll_cons_mk (Below.trod laidOut (by kernel_rfl) (of_decide_eq_true (by kernel_rfl)) k1 bel lt1) trodAll_mk0)), rfl, bel.frame _, fun h => by cases h⟩

theorem over : Rows.patchLapsRow.holds Try.pinned (OpenSpec.ofChange Rows.patchLapsSpec) :=
  OpenClaim.holds_of_wide 4 Try.f4 rfl rfl rfl rfl rfl rfl rfl ⟨rfl, rfl, rfl, rfl, rfl⟩ rfl rfl rfl rfl rfl (by kernel_rfl) Try.func4 (by kernel_rfl)
    (of_decide_eq_true (by kernel_rfl)) (by unfold Func.isWrapper; first | (rw [if_pos (by decide +kernel)]; kernel_rfl) | (rw [if_neg (by decide +kernel)]; exact ⟨rfl, rfl⟩))
    (fun os started H enc _ => lifted os started H enc)

end Go.Proofs.Ytjljklfahmjngaa.patchLaps

namespace Go.Proofs.Ytjljklfahmjngaa
theorem laps_holds : Rows.PatchLapsSaid := patchLaps.over
#print axioms laps_holds
end Go.Proofs.Ytjljklfahmjngaa
