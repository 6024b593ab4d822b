/-
  Proved here: lockgatelaw10.TreeSame, called with any row of calls, returns true, and turns nothing that lay in memory: in a tree with a file of two names, and whatever up to 150 calls have made besides, a rename of the one name onto the other changes nothing: the root's names are the same ones, and the file has two links (P1003). Conditions: none.
-/
import Derived.Test.YtehaoeclnmelhabGreatLaySm
import Derived.Test.YtehaoeclnmelhabGreatRows
import Derived.WalkKit
import Derived.ProofKit
import Derived.OpenShut
import Derived.ShutString
import Derived.ChangeOld
import Derived.Below
import Derived.Lib.SmallJoins
namespace Go.Proofs.YtehaoeclnmelhabGreat.treeSame
open Go.ChangeShapes Go.WideShapes Go.ChangeAt Go.RowKit Go.Joins
open Go.ChangeMaps (open_string shut_string)
set_option linter.unusedVariables false

theorem own : ownKnob Tryz.prog.godebug = none := by kernel_rfl
theorem laidOut : laidOutB Tryz.prog = true := by kernel_rfl
theorem cell_lt {w : World} {a : Addr} {v : Value} (h : w.cell? a = some v) : a.block < w.heap.size := by
  rcases Nat.lt_or_ge a.block w.heap.size with h' | h'
  · exact h'
  · simp [World.cell?, Array.getElem?_eq_none h'] at h

/-- A row that came in. -/
def IsRow (k : IntKind) (w : World) (a : Option Addr) (len cap : Nat) (zs : List Int) : Prop :=
  (a = none ∧ len = 0 ∧ cap = 0 ∧ zs = []) ∨
  ∃ x, a = some x ∧ len ≤ cap ∧ cap ≤ maxLen ∧ zs.length = cap ∧ (∀ i, i < zs.length → w.cell? (x.add i) = some (.int k (zs.getD i 0))) ∧ ∀ n ∈ zs, (Lit.int k n).wf = true

theorem cell_ltA {w : World} {a : Addr} {v : Value} (h : w.cell? a = some v) : a.block < w.heap.size := by
  rcases Nat.lt_or_ge a.block w.heap.size with h' | h'
  · exact h'
  · simp [World.cell?, Array.getElem?_eq_none h'] at h
theorem spot_none {w : World} {a : Addr} {v : Value} (h : w.cell? a = some v) : a = ⟨a.block, a.off, none⟩ := by
  obtain ⟨b, o, sp⟩ := a
  cases sp with
  | none => rfl
  | some s =>
    simp only [World.cell?] at h
    split at h <;> simp at h
theorem IsRow.batC {w : World} {a0 : Option Addr} {len0 cap0 : Nat} {z0 : List Int} (w0 : IsRow .u8 w a0 len0 cap0 z0) : BAt w a0 len0 (z0.take len0) ∧ (len0 ≤ cap0 ∧ cap0 ≤ 9223372036854775807) ∧ (a0 = none → len0 = 0 ∧ cap0 = 0) ∧ ∀ x ∈ z0.take len0, 0 ≤ x ∧ x ≤ 255 := by
  rcases w0 with ⟨rfl, rfl, rfl, rfl⟩ | ⟨x, rfl, hl, hm, hz, hc, hwf⟩
  · exact ⟨⟨rfl, fun h => absurd h (Nat.lt_irrefl 0)⟩, ⟨Nat.zero_le _, Nat.zero_le _⟩, fun _ => ⟨rfl, rfl⟩, fun x hx => by cases hx⟩
  · refine ⟨⟨by simp; omega, fun h => ⟨x, rfl, ?_, fun i hi => ?_⟩⟩, ⟨hl, by unfold maxLen at hm; omega⟩, (fun h => by cases h), fun y hy => bounds_u8 (hwf y (List.mem_of_mem_take hy))⟩
    · have := cell_lt (hc 0 (by omega))
      rwa [add_block] at this
    · rw [hc i (by omega)]
      simp [List.getD, hi]
set_option maxRecDepth 100000 in
/-- A row of calls that came in, opened. -/
theorem open_calls {H : Type} {enc : TypeId × Value → H} {w : World} {base : Nat} {held : Bool} {fuel : Nat} {cs : List Value} {x : DataW H × List MemPlace} (hf : DataW.trod enc Tryz.prog w base (fun _ => true) held fuel 47 cs = some x) :
    ∃ ao len cap V, cs = [.slice ao len cap] ∧ ClAt w ao len V ∧ len ≤ 9223372036854775807 := by
  have cE : Tryz.prog.cellsOf 35 = 6 := by kernel_rfl
  have c3 : Tryz.prog.cellsOf 3 = 1 := by kernel_rfl
  have c9 : Tryz.prog.cellsOf 9 = 1 := by kernel_rfl
  have cB : Tryz.prog.cellsOf 29 = 1 := by kernel_rfl
  rcases DataW.trod_slice Tryz.underlying47 hf with ⟨h0, -⟩ | ⟨a, len, cap, elems, rest, n, _, rfl, -, hb, hl, hm, hlen, hel, -, -⟩
  · exact ⟨none, 0, 0, fun _ => ⟨0, ⟨#[]⟩, ⟨#[]⟩, 0, 0, none, 0, 0, []⟩, h0, fun h => absurd h (Nat.lt_irrefl 0), by omega⟩
  · have each : ∀ k, k < len → ∃ p : ClV, (w.cell? (a.add (k * 6)) = some (.int .i64 p.kd) ∧ w.cell? (a.add (k * 6 + 1)) = some (.string p.p) ∧ w.cell? (a.add (k * 6 + 2)) = some (.string p.q) ∧ w.cell? (a.add (k * 6 + 3)) = some (.int .i64 p.off) ∧ w.cell? (a.add (k * 6 + 4)) = some (.int .i64 p.n) ∧ w.cell? (a.add (k * 6 + 5)) = some (.slice p.ao p.m p.cc)) ∧ BAt w p.ao p.m p.xs ∧ p.wf := by
      intro k hk
      have h := hel k hk
      rw [cE, List.getElem?_eq_getElem (by omega), Option.bind_eq_some_iff] at h
      obtain ⟨cs', h1, h2⟩ := h
      obtain ⟨_, hln, hcell⟩ := World.cells?_some h1
      obtain ⟨ys, m, -, -, -, hyl, hfy⟩ := DataW.trod_struct Tryz.underlying35 h2
      simp at hyl
      have f0 := hfy 0 _ rfl
      have f1 := hfy 1 _ rfl
      have f2 := hfy 2 _ rfl
      have f3 := hfy 3 _ rfl
      have f4 := hfy 4 _ rfl
      have f5 := hfy 5 _ rfl
      match cs', hln, ys, hyl with
      | [v0, v1, v2, v3, v4, v5], _, [y0, y1, y2, y3, y4, y5], _ =>
        simp [c3, c9, cB] at f0 f1 f2 f3 f4 f5
        have e0 := hcell 0 (by omega)
        have e1 := hcell 1 (by omega)
        have e2 := hcell 2 (by omega)
        have e3 := hcell 3 (by omega)
        have e4 := hcell 4 (by omega)
        have e5 := hcell 5 (by omega)
        rw [add_add] at e0 e1 e2 e3 e4 e5
        simp only [List.getElem?_cons_zero, List.getElem?_cons_succ] at e0 e1 e2 e3 e4 e5
        obtain ⟨z0, q0, _, w0⟩ := DataW.trod_int Tryz.underlying3 f0
        obtain ⟨z1, q1, _, _⟩ := DataW.trod_string Tryz.underlying9 f1
        obtain ⟨z2, q2, _, _⟩ := DataW.trod_string Tryz.underlying9 f2
        obtain ⟨z3, q3, _, w3⟩ := DataW.trod_int Tryz.underlying3 f3
        obtain ⟨z4, q4, _, w4⟩ := DataW.trod_int Tryz.underlying3 f4
        simp at q0 q1 q2 q3 q4
        subst q0 q1 q2 q3 q4
        have hrow : ∃ ao l c zs, v5 = .slice ao l c ∧ IsRow .u8 w ao l c zs := by
          rcases open_ints Tryz.underlying29 Tryz.underlying5 (by kernel_rfl) f5 with ⟨hcs, _⟩ | ⟨x, l, c, zs, hcs, _, hl, hm, hz, _, hcell, hwz⟩
          · simp at hcs
            exact ⟨none, 0, 0, [], hcs, .inl ⟨rfl, rfl, rfl, rfl⟩⟩
          · simp at hcs
            exact ⟨some x, l, c, zs, hcs, .inr ⟨_, rfl, hl, hm, by simpa using hz, hcell, hwz⟩⟩
        obtain ⟨ao, l, c, zs, rfl, hr⟩ := hrow
        obtain ⟨r1, r2, r3, r4⟩ := hr.batC
        exact ⟨⟨z0, z1, z2, z3, z4, ao, l, c, zs.take l⟩, ⟨e0, e1, e2, e3, e4, e5⟩, r1, ⟨w0, w3, w4, r2, r3, r4⟩⟩
    classical
    let f : Nat → ClV := fun k => if h : k < len then (each k h).choose else ⟨0, ⟨#[]⟩, ⟨#[]⟩, 0, 0, none, 0, 0, []⟩
    have hfk : ∀ k (h : k < len), f k = (each k h).choose := fun k h => dif_pos h
    refine ⟨some a, len, cap, f, rfl, fun h0 => ?_, by unfold maxLen at hm; omega⟩
    obtain ⟨p, ⟨h1, _⟩, _⟩ := each 0 h0
    rw [show a.add (0 * 6) = a by simp [Addr.add]] at h1
    have hlt := cell_ltA h1
    have ha := spot_none h1
    refine ⟨a.block, a.off, by rw [← ha], hlt, fun j hj => ?_⟩
    rw [hfk j hj]
    have := (each j hj).choose_spec
    generalize (each j hj).choose = p at this ⊢
    rw [ha] at this
    simp only [add_at, ← Nat.add_assoc] at this
    exact this

theorem walk (a0 : Option Addr) (len0 cap0 : Nat) (A : Nat → ClV) (w : World) (hl : len0 ≤ 9223372036854775807) (w0 : ClAt w a0 len0 A) :
    Calls Tryz.prog 7 #[.slice a0 len0 cap0] w fun e w' => e = .returned (.bool true) ∧ Below w.heap.size w w' :=
  same_law w a0 len0 cap0 A w0 hl

/-! ### THE ROW's STEP -/
set_option maxRecDepth 100000 in
theorem lifted (os : Os) (started : os.Started) (H : Type) (enc : TypeId × Value → H) :
    ReturnsInHanded {} Tryz.checked os 7 .any (Rows.treeSameSpec.pre6 enc Tryz.prog Tryz.f7 Rows.treeSameRow.domain false) (Rows.treeSameSpec.post enc Tryz.prog Tryz.f7 false true false false) := by
  refine returnsInHanded_of_change (C := Tryz.checked) own started (by kernel_rfl) Tryz.func7
    (ChangeSpec.witness6 (enc := enc) (C := Tryz.checked) false ⟨#[], #[.slice none 0 0], []⟩ 8 (by kernel_rfl) (by kernel_rfl) (by kernel_rfl) (by kernel_rfl)) ?_
  intro W base args ds gs before hval0 hW hcnd _
  have hval : ∀ (j : Nat) t v, Tryz.f7.params[j]? = some t → args[j]? = some v → Value.okWide Tryz.prog W .any base t v := hval0
  have hW' := hW
  obtain ⟨p, q, hA0, hV, rfl, hfz, hnd⟩ := hW
  have hA : DataW.TrodAll enc Tryz.prog W 0 (fun _ => true) true Tryz.f7.params.toList args.toList ds p := hA0
  rw [Tryz.params7] at hA hval
  obtain ⟨v0, vs0, d0, ds0, p0, q0, hargs, rfl, rfl, h0, r0⟩ := trodAll_cons hA
  obtain ⟨rfl, rfl, rfl⟩ := trodAll_nil r0
  obtain rfl : args = #[v0] := by cases args; simp_all
  obtain ⟨rfl, rfl⟩ := trodVars_none hV
  have k0 := h0
  have lt0 : ∀ x ∈ p0, x.block < W.heap.size := by obtain ⟨m, hm⟩ := k0; exact DataW.trod_lt m _ _ _ hm
  obtain ⟨a0, len0, cap0, ea0⟩ := okWide_slice Tryz.underlying47 (hval 0 47 v0 rfl rfl)
  subst ea0
  obtain ⟨A0, w0, WL0⟩ : ∃ A, ClAt W a0 len0 A ∧ len0 ≤ 9223372036854775807 := by
    obtain ⟨fuel, hf⟩ := h0
    obtain ⟨ao, len, cap, V, hcs, hA, hm⟩ := open_calls hf
    simp [Value.cells] at hcs
    obtain ⟨rfl, rfl, rfl⟩ := hcs
    exact ⟨V, hA, hm⟩
  clear hA0 hval0
  refine (walk a0 len0 cap0 A0 W WL0 w0).mono fun e W' ⟨he, bel⟩ => ?_
  subst he
  exact ⟨_, rfl, _, _, _, [], _, [], hW', trodAll_mk1 (shut_bool Tryz.underlying4 _), (trodAll_cons_mk (Below.trod laidOut (by kernel_rfl) (of_decide_eq_true (by kernel_rfl)) k0 bel lt0) trodAll_mk0), rfl, bel.frame _, fun h => by cases h⟩

theorem over : Rows.treeSameRow.holds Tryz.pinned (OpenSpec.ofChange Rows.treeSameSpec) :=
  OpenClaim.holds_of_wide 7 Tryz.f7 rfl rfl rfl rfl rfl rfl rfl ⟨rfl, rfl, rfl, rfl, rfl⟩ rfl rfl rfl rfl rfl (by kernel_rfl) Tryz.func7 (by kernel_rfl)
    (of_decide_eq_true (by kernel_rfl)) (by unfold Func.isWrapper; first | (rw [if_pos (by decide +kernel)]; kernel_rfl) | (rw [if_neg (by decide +kernel)]; exact ⟨rfl, rfl⟩))
    (fun os started H enc _ => lifted os started H enc)

end Go.Proofs.YtehaoeclnmelhabGreat.treeSame

namespace Go.Proofs.YtehaoeclnmelhabGreat
theorem same_holds : Rows.TreeSameSaid := treeSame.over
#print axioms same_holds
end Go.Proofs.YtehaoeclnmelhabGreat
