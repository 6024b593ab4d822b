/-
  Proved here: lockgatelaw15.LocksPlay, called with any row of calls, returns true, and turns nothing that lay in memory: whatever is asked and released, up to two hundred times, each call grants what the reference grants, each thread waits for what it says, the same ones hold, and in the end the same ones are stuck, whatever another table is asked meanwhile and whatever is written into the rows that were told (P1501 to P1504). Conditions: none.
-/
import Derived.Test.YtoediflikoedaaaLkPlay
import Derived.Test.YtoediflikoedaaaRows
import Derived.WalkKit
import Derived.ProofKit
import Derived.OpenShut
import Derived.ShutString
import Derived.ChangeOld
import Derived.Below
import Derived.Lib.SmallJoins
import Derived.Deep.Slices
namespace Go.Proofs.Ytoediflikoedaaa.locksPlay
open Go.ChangeShapes Go.WideShapes Go.ChangeAt Go.RowKit Go.Joins
open Go.ChangeMaps (open_string shut_string)
set_option linter.unusedVariables false

theorem own : ownKnob Try.prog.godebug = none := by kernel_rfl
theorem laidOut : laidOutB Try.prog = true := by kernel_rfl


theorem cell_ltA {w : World} {a : Addr} {v : Value} (h : w.cell? a = some v) : a.block < w.heap.size := by
  rcases Nat.lt_or_ge a.block w.heap.size with h' | h'
  · exact h'
  · simp [World.cell?, Array.getElem?_eq_none h'] at h
theorem spot_none {w : World} {a : Addr} {v : Value} (h : w.cell? a = some v) : a = ⟨a.block, a.off, none⟩ := by
  obtain ⟨b, o, sp⟩ := a
  cases sp with
  | none => rfl
  | some s =>
    simp only [World.cell?] at h
    split at h <;> simp at h
set_option maxRecDepth 100000 in
/-- A row of calls that came in, opened. -/
theorem open_acts {H : Type} {enc : TypeId × Value → H} {W : World} {fuel : Nat} {cs : List Value} {x : DataW H × List MemPlace} (hf : DataW.trod enc Try.prog W 0 (fun _ => true) true fuel 22 cs = some x) :
    cs = [.slice none 0 0] ∨ ∃ a len cap A, cs = [.slice (some a) len cap] ∧ len ≤ cap ∧ cap ≤ maxLen ∧ ActsAt W (some a) len A := by
  have c33 : Try.prog.cellsOf 33 = 4 := by kernel_rfl
  have c31 : Try.prog.cellsOf 31 = 3 := by kernel_rfl
  have c3 : Try.prog.cellsOf 3 = 1 := by kernel_rfl
  have c4 : Try.prog.cellsOf 4 = 1 := by kernel_rfl
  rcases Go.Deep.open_slice Try.underlying22 hf with h0 | ⟨a, len, cap, m, n, D, Pl, rfl, hb, hl, hm, hmm, rfl, hx⟩
  · exact .inl h0.1
  right
  rw [if_pos rfl] at hmm
  have each : ∀ i, i < len → ∃ V : ActV, ∃ b off, a = ⟨b, off, none⟩ ∧ b < W.heap.size ∧ W.cell? ⟨b, off + i * 4, none⟩ = some (.int .i64 V.way) ∧ W.cell? ⟨b, off + i * 4 + 1, none⟩ = some (.int .i64 V.lk.th) ∧ W.cell? ⟨b, off + i * 4 + 2, none⟩ = some (.int .i64 V.lk.tg) ∧ W.cell? ⟨b, off + i * 4 + 3, none⟩ = some (.bool V.lk.al) ∧ V.lk.wf := by
    intro i hi
    obtain ⟨cs', h1, h2⟩ := hx i (by omega)
    rw [c33] at h1
    obtain ⟨_, hlen, hcell⟩ := World.cells?_some h1
    obtain ⟨y0, y1, k, _, _, g0, g1⟩ := trod_struct2 Try.underlying33 h2
    match cs', hlen with
    | [v0, v1, v2, v3], _ =>
      simp [c3, c31] at g0 g1
      obtain ⟨xs, n2, _, _, _, hlen2, hf2⟩ := DataW.trod_struct Try.underlying31 g1
      match xs, hlen2 with
      | [z1, z2, z3], _ =>
      have j1 := hf2 0 _ rfl
      have j2 := hf2 1 _ rfl
      have j3 := hf2 2 _ rfl
      simp [c3, c4] at j1 j2 j3
      have e0 := hcell 0 (by omega)
      have e1 := hcell 1 (by omega)
      have e2 := hcell 2 (by omega)
      have e3 := hcell 3 (by omega)
      rw [add_add] at e0 e1 e2 e3
      simp only [List.getElem?_cons_zero, List.getElem?_cons_succ] at e0 e1 e2 e3
      obtain ⟨n0, f0, _, w0⟩ := DataW.trod_int Try.underlying3 g0
      obtain ⟨n1, f1, _, w1⟩ := DataW.trod_int Try.underlying3 j1
      obtain ⟨n2, f2, _, w2⟩ := DataW.trod_int Try.underlying3 j2
      obtain ⟨n3, f3, _⟩ := DataW.trod_bool Try.underlying4 j3
      simp at f0 f1 f2 f3
      subst f0 f1 f2 f3
      have ha : ∃ b off, a = ⟨b, off, none⟩ := by
        obtain ⟨cs0, h10, h20⟩ := hx 0 (by omega)
        rw [c33] at h10
        obtain ⟨_, hlen0, hcell0⟩ := World.cells?_some h10
        have e00 := hcell0 0 (by omega)
        rw [add_add, Nat.zero_mul] at e00
        have hv : ∃ v, W.cell? a = some v := by
          cases hc : cs0[0]? with
          | none => simp at hc; rw [hc] at hlen0; simp at hlen0
          | some v => exact ⟨v, by rw [hc] at e00; exact e00⟩
        obtain ⟨v, hv⟩ := hv
        exact ⟨a.block, a.off, spot_none hv⟩
      obtain ⟨b, off, rfl⟩ := ha
      rw [add_at] at e0 e1 e2 e3
      exact ⟨⟨n0, ⟨n1, n2, n3⟩⟩, b, off, rfl, cell_ltA e0, e0, e1, e2, e3, w1, w2⟩
  by_cases h0 : 0 < len
  · obtain ⟨f, hfm⟩ := Go.Deep.choose_lt each
    refine ⟨a, len, cap, f, rfl, hl, hm, fun _ => ?_⟩
    obtain ⟨b, off, rfl, hblt, _⟩ := hfm 0 h0
    refine ⟨b, off, rfl, hblt, fun i hi => ?_⟩
    obtain ⟨b', off', e, _, h⟩ := hfm i hi
    cases e
    exact h
  · exact ⟨a, len, cap, fun _ => default, rfl, hl, hm, fun h => absurd h h0⟩
theorem walk (a0 : Option Addr) (len0 cap0 : Nat) (A : Nat → ActV) (w : World) (hl : len0 ≤ 9223372036854775807) (w0 : ActsAt w a0 len0 A) :
    Calls Try.prog 3 #[.slice a0 len0 cap0] w fun e w' => e = .returned (.bool true) ∧ Below w.heap.size w w' :=
  play_any w a0 len0 cap0 A w0 hl

/-! ### THE ROW's STEP -/
set_option maxRecDepth 100000 in
theorem lifted (os : Os) (started : os.Started) (H : Type) (enc : TypeId × Value → H) :
    ReturnsInHanded {} Try.checked os 3 .any (Rows.locksPlaySpec.pre6 enc Try.prog Try.f3 Rows.locksPlayRow.domain false) (Rows.locksPlaySpec.post enc Try.prog Try.f3 false true false false) := by
  refine returnsInHanded_of_change (C := Try.checked) own started (by kernel_rfl) Try.func3
    (ChangeSpec.witness6 (enc := enc) (C := Try.checked) false ⟨#[], #[.slice none 0 0], []⟩ 8 (by kernel_rfl) (by kernel_rfl) (by kernel_rfl) (by kernel_rfl)) ?_
  intro W base args ds gs before hval0 hW hcnd _
  have hval : ∀ (j : Nat) t v, Try.f3.params[j]? = some t → args[j]? = some v → Value.okWide Try.prog W .any base t v := hval0
  have hW' := hW
  obtain ⟨p, q, hA0, hV, rfl, hfz, hnd⟩ := hW
  have hA : DataW.TrodAll enc Try.prog W 0 (fun _ => true) true Try.f3.params.toList args.toList ds p := hA0
  rw [Try.params3] at hA hval
  obtain ⟨v0, vs0, d0, ds0, p0, q0, hargs, rfl, rfl, h0, r0⟩ := trodAll_cons hA
  obtain ⟨rfl, rfl, rfl⟩ := trodAll_nil r0
  obtain rfl : args = #[v0] := by cases args; simp_all
  obtain ⟨rfl, rfl⟩ := trodVars_none hV
  have k0 := h0
  have lt0 : ∀ x ∈ p0, x.block < W.heap.size := by obtain ⟨m, hm⟩ := k0; exact DataW.trod_lt m _ _ _ hm
  obtain ⟨a0, len0, cap0, ea0⟩ := okWide_slice Try.underlying22 (hval 0 22 v0 rfl rfl)
  subst ea0
  obtain ⟨A0, w0, WL0⟩ : ∃ A, ActsAt W a0 len0 A ∧ len0 ≤ 9223372036854775807 := by
    obtain ⟨fuel, hf⟩ := h0
    rcases open_acts hf with hcs | ⟨x, l, c, A, hcs, hl, hm, hA⟩
    · simp [Value.cells] at hcs
      obtain ⟨rfl, rfl, rfl⟩ := hcs
      exact ⟨fun _ => default, fun h => absurd h (Nat.lt_irrefl 0), by omega⟩
    · simp [Value.cells] at hcs
      obtain ⟨rfl, rfl, rfl⟩ := hcs
      exact ⟨A, hA, by have : maxLen = 9223372036854775807 := rfl; omega⟩
  clear hA0 hval0
  refine (walk a0 len0 cap0 A0 W WL0 w0).mono fun e W' ⟨he, bel⟩ => ?_
  subst he
  exact ⟨_, rfl, _, _, _, [], _, [], hW', trodAll_mk1 (shut_bool Try.underlying4 _), (trodAll_cons_mk (Below.trod laidOut (by kernel_rfl) (of_decide_eq_true (by kernel_rfl)) k0 bel lt0) trodAll_mk0), rfl, bel.frame _, fun h => by cases h⟩

theorem over : Rows.locksPlayRow.holds Try.pinned (OpenSpec.ofChange Rows.locksPlaySpec) :=
  OpenClaim.holds_of_wide 3 Try.f3 rfl rfl rfl rfl rfl rfl rfl ⟨rfl, rfl, rfl, rfl, rfl⟩ rfl rfl rfl rfl rfl (by kernel_rfl) Try.func3 (by kernel_rfl)
    (of_decide_eq_true (by kernel_rfl)) (by unfold Func.isWrapper; first | (rw [if_pos (by decide +kernel)]; kernel_rfl) | (rw [if_neg (by decide +kernel)]; exact ⟨rfl, rfl⟩))
    (fun os started H enc _ => lifted os started H enc)

end Go.Proofs.Ytoediflikoedaaa.locksPlay

namespace Go.Proofs.Ytoediflikoedaaa
theorem play_holds : Rows.LocksPlaySaid := locksPlay.over
#print axioms play_holds
end Go.Proofs.Ytoediflikoedaaa
