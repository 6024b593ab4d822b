/-
  Proved here: lockgatelaw8.PathJoins, called with any strings, returns true, and turns nothing that lay in memory: Join tells the path of any parts as the reference does, and Split of it tells what the reference tells (P801, P802). Conditions: none.
-/
import Derived.Test.YtacmlidodgbgoaaRows
import Derived.Test.YtacmlidodgbgoaaPtJoins
import Derived.WalkKit
import Derived.ProofKit
import Derived.OpenShut
import Derived.ShutString
import Derived.ChangeOld
import Derived.Below
import Derived.Lib.SmallJoins
namespace Go.Proofs.Ytacmlidodgbgoaa.pathJoins
open Go.ChangeShapes Go.WideShapes Go.ChangeAt Go.RowKit Go.Joins
open Go.ChangeMaps (open_string shut_string)
set_option linter.unusedVariables false

theorem own : ownKnob Try.prog.godebug = none := by kernel_rfl
theorem laidOut : laidOutB Try.prog = true := by kernel_rfl
theorem cell_lt {w : World} {a : Addr} {v : Value} (h : w.cell? a = some v) : a.block < w.heap.size := by
  rcases Nat.lt_or_ge a.block w.heap.size with h' | h'
  · exact h'
  · simp [World.cell?, Array.getElem?_eq_none h'] at h
section
variable {H : Type} {enc : TypeId × Value → H} {w : World} {base : Nat} {spare : Nat → Bool} {held : Bool}
/-- A row of strings that came in. -/
theorem open_strs {fuel : Nat} {cs : List Value} {x : DataW H × List MemPlace} (hf : DataW.trod enc Try.prog w base spare held fuel 23 cs = some x) :
    ∃ ao len cap L, cs = [.slice ao len cap] ∧ SAt w ao len L ∧ len ≤ 9223372036854775807 ∧ len ≤ cap := by
  have c9 : Try.prog.cellsOf 9 = 1 := by kernel_rfl
  rcases DataW.trod_slice Try.underlying23 hf with ⟨h0, -⟩ | ⟨a, len, cap, elems, rest, n, _, rfl, -, hb, hl, hm, hlen, hel, -, -⟩
  · exact ⟨none, 0, 0, [], h0, SAt.nil _ _, by omega, Nat.le_refl _⟩
  · have each : ∀ k, k < len → ∃ s : ByteArray, w.cell? (a.add k) = some (.string s) := by
      intro k hk
      have h := hel k hk
      rw [c9, List.getElem?_eq_getElem (by omega), Option.bind_eq_some_iff, Nat.mul_one] at h
      obtain ⟨cs', h1, h2⟩ := h
      obtain ⟨_, hln, hcell⟩ := World.cells?_some h1
      match cs', hln with
      | [v0], _ =>
        have e0 := hcell 0 (by omega)
        simp only [List.getElem?_cons_zero] at e0
        rw [show (a.add k).add 0 = a.add k from rfl] at e0
        obtain ⟨z0, f0, _, _⟩ := DataW.trod_string Try.underlying9 h2
        simp at f0
        subst f0
        exact ⟨z0, e0⟩
    classical
    let f : Nat → List UInt8 := fun k => if h : k < len then ofS (each k h).choose else []
    refine ⟨some a, len, cap, (List.range len).map f, rfl, ⟨by simp, fun hp => ⟨a, rfl, ?_, fun k hk => ?_⟩⟩, by unfold maxLen at hm; omega, hl⟩
    · obtain ⟨s, h1⟩ := each 0 hp
      exact cell_lt (a := a) h1
    · have e : ((List.range len).map f).getD k [] = f k := by simp [List.getD, hk]
      rw [e]
      have h2 := (each k hk).choose_spec
      have e2 : f k = ofS (each k hk).choose := dif_pos hk
      unfold strV
      rw [e2, mk_of]
      exact h2
end


theorem walk (b0 : Option Addr) (m0 c0 : Nat) (L0 : List (List UInt8)) (w : World) (w0 : SAt w b0 m0 L0) (g0 : m0 ≤ 9223372036854775807) (f0 : m0 ≤ c0) :
    Calls Try.prog 4 #[.slice b0 m0 c0] w fun e w' => e = .returned (.bool true) ∧ Below w.heap.size w w' :=
  joins_any w b0 m0 c0 L0 w0 g0 f0

/-! ### THE ROW's STEP -/
set_option maxRecDepth 100000 in
theorem lifted (os : Os) (started : os.Started) (H : Type) (enc : TypeId × Value → H) :
    ReturnsInHanded {} Try.checked os 4 .any (Rows.pathJoinsSpec.pre6 enc Try.prog Try.f4 Rows.pathJoinsRow.domain false) (Rows.pathJoinsSpec.post enc Try.prog Try.f4 false true false false) := by
  refine returnsInHanded_of_change (C := Try.checked) own started (by kernel_rfl) Try.func4
    (ChangeSpec.witness6 (enc := enc) (C := Try.checked) false ⟨#[], #[.slice none 0 0], []⟩ 8 (by kernel_rfl) (by kernel_rfl) (by kernel_rfl) (by kernel_rfl)) ?_
  intro W base args ds gs before hval0 hW hcnd _
  have hval : ∀ (j : Nat) t v, Try.f4.params[j]? = some t → args[j]? = some v → Value.okWide Try.prog W .any base t v := hval0
  have hW' := hW
  obtain ⟨p, q, hA0, hV, rfl, hfz, hnd⟩ := hW
  have hA : DataW.TrodAll enc Try.prog W 0 (fun _ => true) true Try.f4.params.toList args.toList ds p := hA0
  rw [Try.params4] at hA hval
  obtain ⟨v0, vs0, d0, ds0, p0, q0, hargs, rfl, rfl, h0, r0⟩ := trodAll_cons hA
  obtain ⟨rfl, rfl, rfl⟩ := trodAll_nil r0
  obtain rfl : args = #[v0] := by cases args; simp_all
  obtain ⟨rfl, rfl⟩ := trodVars_none hV
  have k0 := h0
  have lt0 : ∀ x ∈ p0, x.block < W.heap.size := by obtain ⟨m, hm⟩ := k0; exact DataW.trod_lt m _ _ _ hm
  obtain ⟨b0, m0, c0, e0⟩ := okWide_slice Try.underlying23 (hval 0 23 v0 rfl rfl)
  subst e0
  obtain ⟨L0, w0, g0, f0⟩ : ∃ L, SAt W b0 m0 L ∧ m0 ≤ 9223372036854775807 ∧ m0 ≤ c0 := by
    obtain ⟨fuel, hf⟩ := h0
    obtain ⟨ao, len, cap, L, hcs, hE, hm, hlc⟩ := open_strs hf
    simp [Value.cells] at hcs
    obtain ⟨rfl, rfl, rfl⟩ := hcs
    exact ⟨L, hE, hm, hlc⟩
  clear hA0 hval0
  refine (walk b0 m0 c0 L0 W w0 g0 f0).mono fun e W' ⟨he, bel⟩ => ?_
  subst he
  exact ⟨_, rfl, _, _, _, [], _, [], hW', trodAll_mk1 (shut_bool Try.underlying4 _), (trodAll_cons_mk (Below.trod laidOut (by kernel_rfl) (of_decide_eq_true (by kernel_rfl)) k0 bel lt0) trodAll_mk0), rfl, bel.frame _, fun h => by cases h⟩

theorem over : Rows.pathJoinsRow.holds Try.pinned (OpenSpec.ofChange Rows.pathJoinsSpec) :=
  OpenClaim.holds_of_wide 4 Try.f4 rfl rfl rfl rfl rfl rfl rfl ⟨rfl, rfl, rfl, rfl, rfl⟩ rfl rfl rfl rfl rfl (by kernel_rfl) Try.func4 (by kernel_rfl)
    (of_decide_eq_true (by kernel_rfl)) (by unfold Func.isWrapper; first | (rw [if_pos (by decide +kernel)]; kernel_rfl) | (rw [if_neg (by decide +kernel)]; exact ⟨rfl, rfl⟩))
    (fun os started H enc _ => lifted os started H enc)

end Go.Proofs.Ytacmlidodgbgoaa.pathJoins

namespace Go.Proofs.Ytacmlidodgbgoaa
theorem joins_holds : Rows.PathJoinsSaid := pathJoins.over
#print axioms joins_holds
end Go.Proofs.Ytacmlidodgbgoaa
