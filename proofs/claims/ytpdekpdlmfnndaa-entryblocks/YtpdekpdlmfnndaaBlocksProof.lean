/-
  Proved here: lockgatelaw6.EntryBlocks, called with any bytes and any entries, returns true, and turns nothing that lay in memory: Block tells the entries of any block, one that is none as a free one, and PackBlock the block of any entries, or that they have none, as the reference does (P602). Conditions: none.
-/
import Derived.Test.YtpdekpdlmfnndaaRows
import Derived.Test.YtpdekpdlmfnndaaBlocksWalk
import Derived.WalkKit
import Derived.ProofKit
import Derived.OpenShut
import Derived.ShutString
import Derived.ChangeOld
import Derived.Below
import Derived.Lib.SmallJoins
namespace Go.Proofs.Ytpdekpdlmfnndaa.entryBlocks
open Go.ChangeShapes Go.WideShapes Go.ChangeAt Go.RowKit Go.Joins
open Go.ChangeMaps (open_string shut_string)
set_option linter.unusedVariables false

theorem own : ownKnob Try.prog.godebug = none := by kernel_rfl
theorem laidOut : laidOutB Try.prog = true := by kernel_rfl
theorem cell_lt {w : World} {a : Addr} {v : Value} (h : w.cell? a = some v) : a.block < w.heap.size := by
  rcases Nat.lt_or_ge a.block w.heap.size with h' | h'
  · exact h'
  · simp [World.cell?, Array.getElem?_eq_none h'] at h

/-- A row that came in. -/
def IsRow (k : IntKind) (w : World) (a : Option Addr) (len cap : Nat) (zs : List Int) : Prop :=
  (a = none ∧ len = 0 ∧ cap = 0 ∧ zs = []) ∨
  ∃ x, a = some x ∧ len ≤ cap ∧ cap ≤ maxLen ∧ zs.length = cap ∧ (∀ i, i < zs.length → w.cell? (x.add i) = some (.int k (zs.getD i 0))) ∧ ∀ n ∈ zs, (Lit.int k n).wf = true

theorem IsRow.bat {w : World} {a0 : Option Addr} {len0 cap0 : Nat} {z0 : List Int} (w0 : IsRow .u8 w a0 len0 cap0 z0) : BAt w a0 len0 (z0.take len0) ∧ len0 ≤ cap0 ∧ cap0 ≤ 9223372036854775807 ∧ (a0 = none → len0 = 0 ∧ cap0 = 0) ∧ ∀ x ∈ z0.take len0, 0 ≤ x ∧ x ≤ 255 := by
  rcases w0 with ⟨rfl, rfl, rfl, rfl⟩ | ⟨x, rfl, hl, hm, hz, hc, hwf⟩
  · exact ⟨⟨rfl, fun h => absurd h (Nat.lt_irrefl 0)⟩, Nat.zero_le _, Nat.zero_le _, fun _ => ⟨rfl, rfl⟩, fun x hx => by cases hx⟩
  · refine ⟨⟨by simp; omega, fun h => ⟨x, rfl, ?_, fun i hi => ?_⟩⟩, hl, by unfold maxLen at hm; omega, (fun h => by cases h), fun y hy => bounds_u8 (hwf y (List.mem_of_mem_take hy))⟩
    · have := cell_lt (hc 0 (by omega))
      rwa [add_block] at this
    · rw [hc i (by omega)]
      simp [List.getD, hi]

section
variable {H : Type} {enc : TypeId × Value → H} {w : World} {base : Nat} {spare : Nat → Bool} {held : Bool}
/-- A row of entries that came in. -/
theorem open_ents {fuel : Nat} {cs : List Value} {x : DataW H × List MemPlace} (hf : DataW.trod enc Try.prog w base spare held fuel 24 cs = some x) :
    ∃ ao len cap L, cs = [.slice ao len cap] ∧ EAt w ao len L ∧ len ≤ 9223372036854775807 := by
  have c26 : Try.prog.cellsOf 26 = 2 := by kernel_rfl
  have c3 : Try.prog.cellsOf 3 = 1 := by kernel_rfl
  have c9 : Try.prog.cellsOf 9 = 1 := by kernel_rfl
  rcases DataW.trod_slice Try.underlying24 hf with ⟨h0, -⟩ | ⟨a, len, cap, elems, rest, n, _, rfl, -, hb, hl, hm, hlen, hel, -, -⟩
  · exact ⟨none, 0, 0, [], h0, EAt.nil _ _, by omega⟩
  · have each : ∀ k, k < len → ∃ (i : Int) (s : ByteArray), w.cell? (a.add (k * 2)) = some (.int .i64 i) ∧ w.cell? (a.add (k * 2 + 1)) = some (.string s) := by
      intro k hk
      have h := hel k hk
      rw [c26, List.getElem?_eq_getElem (by omega), Option.bind_eq_some_iff] at h
      obtain ⟨cs', h1, h2⟩ := h
      obtain ⟨_, hln, hcell⟩ := World.cells?_some h1
      obtain ⟨y0, y1, m, _, _, g0, g1⟩ := trod_struct2 Try.underlying26 h2
      match cs', hln with
      | [v0, v1], _ =>
        simp [c3, c9] at g0 g1
        have e0 := hcell 0 (by omega)
        have e1 := hcell 1 (by omega)
        rw [add_add] at e0 e1
        simp only [List.getElem?_cons_zero, List.getElem?_cons_succ] at e0 e1
        obtain ⟨z0, f0, _, _⟩ := DataW.trod_int Try.underlying3 g0
        obtain ⟨z1, f1, _, _⟩ := DataW.trod_string Try.underlying9 g1
        simp at f0 f1
        subst f0 f1
        exact ⟨z0, z1, e0, e1⟩
    classical
    let f : Nat → Int × ByteArray := fun k => if h : k < len then ((each k h).choose, (each k h).choose_spec.choose) else noE
    refine ⟨some a, len, cap, (List.range len).map f, rfl, ⟨by simp, fun hp => ⟨a, rfl, ?_, fun k hk => ?_⟩⟩, by unfold maxLen at hm; omega⟩
    · obtain ⟨i, s, h1, -⟩ := each 0 hp
      rw [Nat.zero_mul, add_zero] at h1
      exact cell_lt h1
    · have e : ((List.range len).map f).getD k noE = f k := by simp [List.getD, hk]
      rw [e]
      have h2 := (each k hk).choose_spec.choose_spec
      show w.cell? (a.add (k * 2)) = some (.int .i64 (f k).1) ∧ w.cell? (a.add (k * 2 + 1)) = some (.string (f k).2)
      have e2 : f k = ((each k hk).choose, (each k hk).choose_spec.choose) := dif_pos hk
      rw [e2]
      exact h2
end


theorem walk {w : World} {a0 : Option Addr} {len0 cap0 : Nat} {z0 : List Int} (w0 : IsRow .u8 w a0 len0 cap0 z0) (b1 : Option Addr) (m1 c1 : Nat) (L1 : List (Int × ByteArray)) (w1 : EAt w b1 m1 L1) (g1 : m1 ≤ 9223372036854775807) :
    Calls Try.prog 6 #[.slice a0 len0 cap0, .slice b1 m1 c1] w fun e w' => e = .returned (.bool true) ∧ Below w.heap.size w w' := by
  obtain ⟨h1, h2, h3, h4, h5⟩ := w0.bat
  exact blocks_any w a0 len0 cap0 _ h1 h5 h2 h3 b1 m1 c1 L1 w1 g1

/-! ### THE ROW's STEP -/
set_option maxRecDepth 100000 in
theorem lifted (os : Os) (started : os.Started) (H : Type) (enc : TypeId × Value → H) :
    ReturnsInHanded {} Try.checked os 6 .any (Rows.entryBlocksSpec.pre6 enc Try.prog Try.f6 Rows.entryBlocksRow.domain false) (Rows.entryBlocksSpec.post enc Try.prog Try.f6 false true false false) := by
  refine returnsInHanded_of_change (C := Try.checked) own started (by kernel_rfl) Try.func6
    (ChangeSpec.witness6 (enc := enc) (C := Try.checked) false ⟨#[], #[.slice none 0 0, .slice none 0 0], []⟩ 8 (by kernel_rfl) (by kernel_rfl) (by kernel_rfl) (by kernel_rfl)) ?_
  intro W base args ds gs before hval0 hW hcnd _
  have hval : ∀ (j : Nat) t v, Try.f6.params[j]? = some t → args[j]? = some v → Value.okWide Try.prog W .any base t v := hval0
  have hW' := hW
  obtain ⟨p, q, hA0, hV, rfl, hfz, hnd⟩ := hW
  have hA : DataW.TrodAll enc Try.prog W 0 (fun _ => true) true Try.f6.params.toList args.toList ds p := hA0
  rw [Try.params6] at hA hval
  obtain ⟨v0, vs0, d0, ds0, p0, q0, hargs, rfl, rfl, h0, r0⟩ := trodAll_cons hA
  obtain ⟨v1, vs1, d1, ds1, p1, q1, rfl, rfl, rfl, h1, r1⟩ := trodAll_cons r0
  obtain ⟨rfl, rfl, rfl⟩ := trodAll_nil r1
  obtain rfl : args = #[v0, v1] := by cases args; simp_all
  obtain ⟨rfl, rfl⟩ := trodVars_none hV
  obtain ⟨a0, len0, cap0, rfl⟩ := okWide_slice Try.underlying27 (hval 0 27 v0 rfl rfl)
  have k0 := h0
  have lt0 : ∀ x ∈ p0, x.block < W.heap.size := by obtain ⟨m, hm⟩ := k0; exact DataW.trod_lt m _ _ _ hm
  obtain ⟨z0, w0⟩ : ∃ zs, IsRow .u8 W a0 len0 cap0 zs := by
    obtain ⟨fuel, hf⟩ := h0
    rcases open_ints Try.underlying27 Try.underlying5 (by kernel_rfl) hf with ⟨hcs, _⟩ | ⟨x, l, c, zs, hcs, _, hl, hm, hz, _, hcell, hwz⟩
    · simp [Value.cells] at hcs
      obtain ⟨rfl, rfl, rfl⟩ := hcs
      exact ⟨[], .inl ⟨rfl, rfl, rfl, rfl⟩⟩
    · simp [Value.cells] at hcs
      obtain ⟨rfl, rfl, rfl⟩ := hcs
      exact ⟨zs, .inr ⟨_, rfl, hl, hm, by simpa using hz, hcell, hwz⟩⟩
  have k1 := h1
  have lt1 : ∀ x ∈ p1, x.block < W.heap.size := by obtain ⟨m, hm⟩ := k1; exact DataW.trod_lt m _ _ _ hm
  obtain ⟨b1, m1, c1, e1⟩ := okWide_slice Try.underlying24 (hval 1 24 v1 rfl rfl)
  subst e1
  obtain ⟨L1, w1, g1⟩ : ∃ L, EAt W b1 m1 L ∧ m1 ≤ 9223372036854775807 := by
    obtain ⟨fuel, hf⟩ := h1
    obtain ⟨ao, len, cap, L, hcs, hE, hm⟩ := open_ents hf
    simp [Value.cells] at hcs
    obtain ⟨rfl, rfl, rfl⟩ := hcs
    exact ⟨L, hE, hm⟩
  clear hA0 hval0
  refine (walk w0 b1 m1 c1 L1 w1 g1).mono fun e W' ⟨he, bel⟩ => ?_
  subst he
  exact ⟨_, rfl, _, _, _, [], _, [], hW', trodAll_mk1 (shut_bool Try.underlying4 _), (trodAll_cons_mk (Below.trod laidOut (by kernel_rfl) (of_decide_eq_true (by kernel_rfl)) k0 bel lt0) (trodAll_cons_mk (Below.trod laidOut (by kernel_rfl) (of_decide_eq_true (by kernel_rfl)) k1 bel lt1) trodAll_mk0)), rfl, bel.frame _, fun h => by cases h⟩

theorem over : Rows.entryBlocksRow.holds Try.pinned (OpenSpec.ofChange Rows.entryBlocksSpec) :=
  OpenClaim.holds_of_wide 6 Try.f6 rfl rfl rfl rfl rfl rfl rfl ⟨rfl, rfl, rfl, rfl, rfl⟩ rfl rfl rfl rfl rfl (by kernel_rfl) Try.func6 (by kernel_rfl)
    (of_decide_eq_true (by kernel_rfl)) (by unfold Func.isWrapper; first | (rw [if_pos (by decide +kernel)]; kernel_rfl) | (rw [if_neg (by decide +kernel)]; exact ⟨rfl, rfl⟩))
    (fun os started H enc _ => lifted os started H enc)

end Go.Proofs.Ytpdekpdlmfnndaa.entryBlocks

namespace Go.Proofs.Ytpdekpdlmfnndaa
theorem blocks_holds : Rows.EntryBlocksSaid := entryBlocks.over
#print axioms blocks_holds
end Go.Proofs.Ytpdekpdlmfnndaa
