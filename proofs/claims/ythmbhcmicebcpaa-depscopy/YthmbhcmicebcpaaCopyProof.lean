/-
  Proved here: lockgatelaw13.DepsCopy, called with any two rows of calls and any int, returns true, and turns nothing that lay in memory: a copy of a graph of up to 150 changes and writes tells what the graph told when it was copied, whatever up to 150 more changes and writes then make of the graph, and what is written of the copy and added to it does not turn the graph (P1303). Conditions: none.
-/
import Derived.Test.YthmbhcmicebcpaaLayTw
import Derived.Test.YthmbhcmicebcpaaRows
import Derived.WalkKit
import Derived.ProofKit
import Derived.OpenShut
import Derived.ShutString
import Derived.ChangeOld
import Derived.Below
import Derived.Lib.SmallJoins
import Derived.Deep.Slices
import Derived.Deep.Strs
namespace Go.Proofs.Ythmbhcmicebcpaa.depsCopy
open Go.ChangeShapes Go.WideShapes Go.ChangeAt Go.RowKit Go.Joins
open Go.ChangeMaps (open_string shut_string)
set_option linter.unusedVariables false

theorem own : ownKnob Try.prog.godebug = none := by kernel_rfl
theorem laidOut : laidOutB Try.prog = true := by kernel_rfl

theorem cell_lt {w : World} {a : Addr} {v : Value} (h : w.cell? a = some v) : a.block < w.heap.size := by
  rcases Nat.lt_or_ge a.block w.heap.size with h' | h'
  · exact h'
  · simp [World.cell?, Array.getElem?_eq_none h'] at h

/-- A row that came in. -/
def IsRow (k : IntKind) (w : World) (a : Option Addr) (len cap : Nat) (zs : List Int) : Prop :=
  (a = none ∧ len = 0 ∧ cap = 0 ∧ zs = []) ∨
  ∃ x, a = some x ∧ len ≤ cap ∧ cap ≤ maxLen ∧ zs.length = cap ∧ (∀ i, i < zs.length → w.cell? (x.add i) = some (.int k (zs.getD i 0))) ∧ ∀ n ∈ zs, (Lit.int k n).wf = true

theorem IsRow.lat {w : World} {a0 : Option Addr} {len0 cap0 : Nat} {z0 : List Int} (w0 : IsRow .i64 w a0 len0 cap0 z0) : LAt w a0 len0 (z0.take len0) ∧ len0 ≤ 9223372036854775807 := by
  rcases w0 with ⟨rfl, rfl, rfl, rfl⟩ | ⟨x, rfl, hl, hm, hz, hc, hwf⟩
  · exact ⟨⟨rfl, fun h => absurd h (Nat.lt_irrefl 0)⟩, Nat.zero_le _⟩
  · refine ⟨⟨by simp; omega, fun h => ⟨x, rfl, ?_, fun i hi => ?_⟩⟩, by unfold maxLen at hm; omega⟩
    · have := cell_lt (hc 0 (by omega))
      rwa [add_block] at this
    · rw [hc i (by omega)]
      simp [List.getD, hi]

theorem cell_ltA {w : World} {a : Addr} {v : Value} (h : w.cell? a = some v) : a.block < w.heap.size := by
  rcases Nat.lt_or_ge a.block w.heap.size with h' | h'
  · exact h'
  · simp [World.cell?, Array.getElem?_eq_none h'] at h
theorem spot_none {w : World} {a : Addr} {v : Value} (h : w.cell? a = some v) : a = ⟨a.block, a.off, none⟩ := by
  obtain ⟨b, o, sp⟩ := a
  cases sp with
  | none => rfl
  | some s =>
    simp only [World.cell?] at h
    split at h <;> simp at h
set_option maxRecDepth 100000 in
/-- A row of calls that came in, opened. -/
theorem open_acts {H : Type} {enc : TypeId × Value → H} {w : World} {base : Nat} {held : Bool} {fuel : Nat} {cs : List Value} {x : DataW H × List MemPlace} (hf : DataW.trod enc Try.prog w base (fun _ => true) held fuel 22 cs = some x) :
    ∃ ao len cap V, cs = [.slice ao len cap] ∧ ActsAt w ao len V ∧ len ≤ 9223372036854775807 := by
  have c46 : Try.prog.cellsOf 46 = 3 := by kernel_rfl
  have c3 : Try.prog.cellsOf 3 = 1 := by kernel_rfl
  have c23 : Try.prog.cellsOf 23 = 1 := by kernel_rfl
  rcases DataW.trod_slice Try.underlying22 hf with ⟨h0, -⟩ | ⟨a, len, cap, elems, rest, n, _, rfl, -, hb, hl, hm, hlen, hel, -, -⟩
  · exact ⟨none, 0, 0, fun _ => ⟨0, 0, none, 0, 0, []⟩, h0, fun h => absurd h (Nat.lt_irrefl 0), by omega⟩
  · have each : ∀ k, k < len → ∃ p : ActV, (w.cell? (a.add (k * 3)) = some (.int .i64 p.way) ∧ w.cell? (a.add (k * 3 + 1)) = some (.int .i64 p.buf) ∧ w.cell? (a.add (k * 3 + 2)) = some (.slice p.ao p.m p.cc)) ∧ LAt w p.ao p.m p.xs ∧ (Lit.int .i64 p.buf).wf = true ∧ (p.ao = none → p.m = 0 ∧ p.cc = 0) ∧ p.m ≤ 9223372036854775807 := by
      intro k hk
      have h := hel k hk
      rw [c46, List.getElem?_eq_getElem (by omega), Option.bind_eq_some_iff] at h
      obtain ⟨cs', h1, h2⟩ := h
      obtain ⟨_, hln, hcell⟩ := World.cells?_some h1
      obtain ⟨y0, y1, y2, m, _, _, g0, g1, g2⟩ := Go.Deep.trod_struct3 Try.underlying46 h2
      match cs', hln with
      | [v0, v1, v2], _ =>
        simp [c3, c23] at g0 g1 g2
        have e0 := hcell 0 (by omega)
        have e1 := hcell 1 (by omega)
        have e2 := hcell 2 (by omega)
        rw [add_add] at e0 e1 e2
        simp only [List.getElem?_cons_zero, List.getElem?_cons_succ] at e0 e1 e2
        obtain ⟨z0, f0, _, w0⟩ := DataW.trod_int Try.underlying3 g0
        obtain ⟨z1, f1, _, w1⟩ := DataW.trod_int Try.underlying3 g1
        simp at f0 f1
        subst f0 f1
        have hrow : ∃ ao l c zs, v2 = .slice ao l c ∧ IsRow .i64 w ao l c zs := by
          rcases open_ints Try.underlying23 Try.underlying3 (by kernel_rfl) g2 with ⟨hcs, _⟩ | ⟨x, l, c, zs, hcs, _, hl, hm, hz, _, hcell, hwz⟩
          · simp at hcs
            exact ⟨none, 0, 0, [], hcs, .inl ⟨rfl, rfl, rfl, rfl⟩⟩
          · simp at hcs
            exact ⟨some x, l, c, zs, hcs, .inr ⟨_, rfl, hl, hm, by simpa using hz, hcell, hwz⟩⟩
        obtain ⟨ao, l, c, zs, rfl, hr⟩ := hrow
        refine ⟨⟨z0, z1, ao, l, c, zs.take l⟩, ⟨e0, e1, e2⟩, (IsRow.lat hr).1, w1, fun e => ?_, (IsRow.lat hr).2⟩
        rcases hr with ⟨_, h1, h2, _⟩ | ⟨x, h1, _⟩
        · exact ⟨h1, h2⟩
        · have e' : ao = none := e
          rw [e'] at h1
          cases h1
    classical
    let f : Nat → ActV := fun k => if h : k < len then (each k h).choose else ⟨0, 0, none, 0, 0, []⟩
    have hfk : ∀ k (h : k < len), f k = (each k h).choose := fun k h => dif_pos h
    refine ⟨some a, len, cap, f, rfl, fun h0 => ?_, by unfold maxLen at hm; omega⟩
    obtain ⟨p, ⟨h1, _, _⟩, _⟩ := each 0 h0
    rw [show a.add (0 * 3) = a by simp [Addr.add]] at h1
    have hlt := cell_ltA h1
    have ha := spot_none h1
    refine ⟨a.block, a.off, by rw [← ha], hlt, fun j hj => ?_⟩
    rw [hfk j hj]
    have := (each j hj).choose_spec
    generalize (each j hj).choose = p at this ⊢
    rw [ha] at this
    simp only [add_at, ← Nat.add_assoc] at this
    exact this

theorem walk (a0 : Option Addr) (len0 cap0 : Nat) (A : Nat → ActV) (a1 : Option Addr) (len1 cap1 : Nat) (B : Nat → ActV) (a2 : Int) (h2 : (Lit.int .i64 a2).wf = true) (w : World) (hl : len0 ≤ 9223372036854775807) (w0 : ActsAt w a0 len0 A) (hl1 : len1 ≤ 9223372036854775807) (w1 : ActsAt w a1 len1 B) :
    Calls Try.prog 5 #[.slice a0 len0 cap0, .slice a1 len1 cap1, .int .i64 a2] w fun e w' => e = .returned (.bool true) ∧ Below w.heap.size w w' :=
  dcopy_any w a0 len0 cap0 A w0 hl a1 len1 cap1 B w1 hl1 a2 h2

/-! ### THE ROW's STEP -/
set_option maxRecDepth 100000 in
theorem lifted (os : Os) (started : os.Started) (H : Type) (enc : TypeId × Value → H) :
    ReturnsInHanded {} Try.checked os 5 .any (Rows.depsCopySpec.pre6 enc Try.prog Try.f5 Rows.depsCopyRow.domain false) (Rows.depsCopySpec.post enc Try.prog Try.f5 false true false false) := by
  refine returnsInHanded_of_change (C := Try.checked) own started (by kernel_rfl) Try.func5
    (ChangeSpec.witness6 (enc := enc) (C := Try.checked) false ⟨#[], #[.slice none 0 0, .slice none 0 0, .int .i64 0], []⟩ 8 (by kernel_rfl) (by kernel_rfl) (by kernel_rfl) (by kernel_rfl)) ?_
  intro W base args ds gs before hval0 hW hcnd _
  have hval : ∀ (j : Nat) t v, Try.f5.params[j]? = some t → args[j]? = some v → Value.okWide Try.prog W .any base t v := hval0
  have hW' := hW
  obtain ⟨p, q, hA0, hV, rfl, hfz, hnd⟩ := hW
  have hA : DataW.TrodAll enc Try.prog W 0 (fun _ => true) true Try.f5.params.toList args.toList ds p := hA0
  rw [Try.params5] at hA hval
  obtain ⟨v0, vs0, d0, ds0, p0, q0, hargs, rfl, rfl, h0, r0⟩ := trodAll_cons hA
  obtain ⟨v1, vs1, d1, ds1, p1, q1, rfl, rfl, rfl, h1, r1⟩ := trodAll_cons r0
  obtain ⟨v2, vs2, d2, ds2, p2, q2, rfl, rfl, rfl, h2, r2⟩ := trodAll_cons r1
  obtain ⟨rfl, rfl, rfl⟩ := trodAll_nil r2
  obtain rfl : args = #[v0, v1, v2] := by cases args; simp_all
  obtain ⟨rfl, rfl⟩ := trodVars_none hV
  have k0 := h0
  have lt0 : ∀ x ∈ p0, x.block < W.heap.size := by obtain ⟨m, hm⟩ := k0; exact DataW.trod_lt m _ _ _ hm
  obtain ⟨a0, len0, cap0, ea0⟩ := okWide_slice Try.underlying22 (hval 0 22 v0 rfl rfl)
  subst ea0
  obtain ⟨A0, w0, WL0⟩ : ∃ A, ActsAt W a0 len0 A ∧ len0 ≤ 9223372036854775807 := by
    obtain ⟨fuel, hf⟩ := h0
    obtain ⟨ao, len, cap, V, hcs, hA, hm⟩ := open_acts hf
    simp [Value.cells] at hcs
    obtain ⟨rfl, rfl, rfl⟩ := hcs
    exact ⟨V, hA, hm⟩
  have k1 := h1
  have lt1 : ∀ x ∈ p1, x.block < W.heap.size := by obtain ⟨m, hm⟩ := k1; exact DataW.trod_lt m _ _ _ hm
  obtain ⟨a1, len1, cap1, ea1⟩ := okWide_slice Try.underlying22 (hval 1 22 v1 rfl rfl)
  subst ea1
  obtain ⟨A1, w1, WL1⟩ : ∃ A, ActsAt W a1 len1 A ∧ len1 ≤ 9223372036854775807 := by
    obtain ⟨fuel, hf⟩ := h1
    obtain ⟨ao, len, cap, V, hcs, hA, hm⟩ := open_acts hf
    simp [Value.cells] at hcs
    obtain ⟨rfl, rfl, rfl⟩ := hcs
    exact ⟨V, hA, hm⟩
  obtain ⟨a2, rfl, rfl, rfl, w2⟩ := open_int Try.underlying3 (hval 2 3 v2 rfl rfl) h2
  clear hA0 hval0
  refine (walk a0 len0 cap0 A0 a1 len1 cap1 A1 a2 w2 W WL0 w0 WL1 w1).mono fun e W' ⟨he, bel⟩ => ?_
  subst he
  exact ⟨_, rfl, _, _, _, [], _, [], hW', trodAll_mk1 (shut_bool Try.underlying4 _), (trodAll_cons_mk (Below.trod laidOut (by kernel_rfl) (of_decide_eq_true (by kernel_rfl)) k0 bel lt0) (trodAll_cons_mk (Below.trod laidOut (by kernel_rfl) (of_decide_eq_true (by kernel_rfl)) k1 bel lt1) (trodAll_cons_mk (shut_int Try.underlying3 w2) trodAll_mk0))), rfl, bel.frame _, fun h => by cases h⟩

theorem over : Rows.depsCopyRow.holds Try.pinned (OpenSpec.ofChange Rows.depsCopySpec) :=
  OpenClaim.holds_of_wide 5 Try.f5 rfl rfl rfl rfl rfl rfl rfl ⟨rfl, rfl, rfl, rfl, rfl⟩ rfl rfl rfl rfl rfl (by kernel_rfl) Try.func5 (by kernel_rfl)
    (of_decide_eq_true (by kernel_rfl)) (by unfold Func.isWrapper; first | (rw [if_pos (by decide +kernel)]; kernel_rfl) | (rw [if_neg (by decide +kernel)]; exact ⟨rfl, rfl⟩))
    (fun os started H enc _ => lifted os started H enc)

end Go.Proofs.Ythmbhcmicebcpaa.depsCopy

namespace Go.Proofs.Ythmbhcmicebcpaa
theorem copy_holds : Rows.DepsCopySaid := depsCopy.over
#print axioms copy_holds
end Go.Proofs.Ythmbhcmicebcpaa
