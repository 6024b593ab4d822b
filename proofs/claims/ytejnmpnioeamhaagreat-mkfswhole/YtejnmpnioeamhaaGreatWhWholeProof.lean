/-
  Proved here: lockgatelaw7.MkfsWhole, called with any geometry, returns true, leaves its argument as it was, and turns nothing that lay in memory: the empty file system of every geometry that may be (of up to 200 data blocks in all) breaks no rule, is not changed by a repair, and is read as a root of kind 2 with two links and thirty free slots behind its own two names (P701, P702). Conditions: none.
-/
import Derived.Test.YtejnmpnioeamhaaGreatWhWhole
import Derived.Test.YtejnmpnioeamhaaGreatRows
import Derived.WalkKit
import Derived.ProofKit
import Derived.OpenShut
import Derived.ShutString
import Derived.Lib.SmallJoins
namespace Go.Proofs.YtejnmpnioeamhaaGreat.mkfsWhole
open Go.ChangeShapes Go.WideShapes Go.ChangeAt Go.RowKit Go.Joins
set_option linter.unusedVariables false

theorem own : ownKnob Tryz.prog.godebug = none := by kernel_rfl
theorem cells23 : Tryz.prog.cellsOf 23 = 3 := by kernel_rfl

set_option maxRecDepth 100000 in
theorem lifted (os : Os) (started : os.Started) (H : Type) (enc : TypeId × Value → H) :
    ReturnsInHanded {} Tryz.checked os 3 .any (Rows.mkfsWholeSpec.pre6 enc Tryz.prog Tryz.f3 Rows.mkfsWholeRow.domain false) (Rows.mkfsWholeSpec.post enc Tryz.prog Tryz.f3 false true false false) := by
  refine returnsInHanded_of_change (C := Tryz.checked) own started (by kernel_rfl) Tryz.func3
    (ChangeSpec.witness6 (enc := enc) (C := Tryz.checked) false ⟨#[], #[.agg #[.int .i64 0, .int .i64 0, .int .i64 0]], []⟩ 8 (by kernel_rfl) (by kernel_rfl) (by kernel_rfl) (by kernel_rfl)) ?_
  intro W base args ds gs before hval0 hW hcnd _
  have hval : ∀ (j : Nat) t v, Tryz.f3.params[j]? = some t → args[j]? = some v → Value.okWide Tryz.prog W .any base t v := hval0
  have hW' := hW
  obtain ⟨p, q, hA0, hV, rfl, hfz, hnd⟩ := hW
  have hA : DataW.TrodAll enc Tryz.prog W 0 (fun _ => true) true Tryz.f3.params.toList args.toList ds p := hA0
  rw [Tryz.params3] at hA hval
  obtain ⟨v0, vs0, d0, ds0, p0, q0, hargs, rfl, rfl, h0, r0⟩ := trodAll_cons hA
  obtain ⟨rfl, rfl, rfl⟩ := trodAll_nil r0
  obtain rfl : args = #[v0] := by cases args; simp_all
  obtain ⟨rfl, rfl⟩ := trodVars_none hV
  obtain ⟨x0, x1, x2, y0, y1, y2, m, rfl, rfl, rfl, hy0, hy1, hy2⟩ := open_agg3 Tryz.underlying23 (by kernel_rfl) cells23 (hval 0 23 v0 rfl rfl) h0
  obtain ⟨G, e0, rfl, wG⟩ := DataW.trod_int Tryz.underlying3 hy0
  obtain ⟨I, e1, rfl, wI⟩ := DataW.trod_int Tryz.underlying3 hy1
  obtain ⟨D, e2, rfl, wD⟩ := DataW.trod_int Tryz.underlying3 hy2
  simp at e0 e1 e2
  subst e0 e1 e2
  clear hA0 hval0
  have reads : ∀ (W' : World) (sp : Nat → Bool), DataW.Trod enc Tryz.prog W' 0 sp true 23 (.agg #[.int .i64 G, .int .i64 I, .int .i64 D]) (.agg [.lit (.int .i64 G), .lit (.int .i64 I), .lit (.int .i64 D)]) [] := fun W' sp =>
    shut_agg3 (y0 := (.lit (.int .i64 G), [])) (y1 := (.lit (.int .i64 I), [])) (y2 := (.lit (.int .i64 D), [])) Tryz.underlying23 (by kernel_rfl) cells23 ⟨1, by simp [DataW.trod, Tryz.underlying3, wG]⟩ ⟨1, by simp [DataW.trod, Tryz.underlying3, wI]⟩ ⟨1, by simp [DataW.trod, Tryz.underlying3, wD]⟩
  refine (Mk.whole_any W G I D).mono fun e W' ⟨he, bel⟩ => ?_
  subst he
  exact ⟨_, rfl, _, _, _, [], _, [], hW', trodAll_mk1 (shut_bool Tryz.underlying4 _), (trodAll_cons_mk (reads _ _) trodAll_mk0), rfl, bel.frame _, fun h => by cases h⟩

theorem over : Rows.mkfsWholeRow.holds Tryz.pinned (OpenSpec.ofChange Rows.mkfsWholeSpec) :=
  OpenClaim.holds_of_wide 3 Tryz.f3 rfl rfl rfl rfl rfl rfl rfl ⟨rfl, rfl, rfl, rfl, rfl⟩ rfl rfl rfl rfl rfl (by kernel_rfl) Tryz.func3 (by kernel_rfl)
    (of_decide_eq_true (by kernel_rfl)) (by unfold Func.isWrapper; first | (rw [if_pos (by decide +kernel)]; kernel_rfl) | (rw [if_neg (by decide +kernel)]; exact ⟨rfl, rfl⟩))
    (fun os started H enc _ => lifted os started H enc)

end Go.Proofs.YtejnmpnioeamhaaGreat.mkfsWhole

namespace Go.Proofs.YtejnmpnioeamhaaGreat
theorem whole_holds : Rows.MkfsWholeSaid := mkfsWhole.over
#print axioms whole_holds
end Go.Proofs.YtejnmpnioeamhaaGreat
