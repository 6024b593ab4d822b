/-
  Proved here: lockgatelaw20.WalkSame, called with any two rows of nodes, returns true, and turns nothing that lay in memory: walk.Same tells of any two rows what the reference tells, a row is the same as itself, and it is told either way round (P2002). Conditions: none.
-/
import Derived.Test.YtbahbhaoimabdaaRows
import Derived.Test.YtbahbhaoimabdaaWkSameW
import Derived.Test.YtbahbhaoimabdaaWkAlive
import Derived.WalkKit
import Derived.ProofKit
import Derived.OpenShut
import Derived.ShutString
import Derived.ChangeOld
import Derived.Below
import Derived.Lib.SmallJoins
namespace Go.Proofs.Ytbahbhaoimabdaa.walkSame
open Go.ChangeShapes Go.WideShapes Go.ChangeAt Go.RowKit Go.Joins
open Go.ChangeMaps (open_string shut_string)
set_option linter.unusedVariables false

theorem own : ownKnob Try.prog.godebug = none := by kernel_rfl
theorem laidOut : laidOutB Try.prog = true := by kernel_rfl
theorem cell_lt {w : World} {a : Addr} {v : Value} (h : w.cell? a = some v) : a.block < w.heap.size := by
  rcases Nat.lt_or_ge a.block w.heap.size with h' | h'
  · exact h'
  · simp [World.cell?, Array.getElem?_eq_none h'] at h

/-- A row that came in. -/
def IsRow (k : IntKind) (w : World) (a : Option Addr) (len cap : Nat) (zs : List Int) : Prop :=
  (a = none ∧ len = 0 ∧ cap = 0 ∧ zs = []) ∨
  ∃ x, a = some x ∧ len ≤ cap ∧ cap ≤ maxLen ∧ zs.length = cap ∧ (∀ i, i < zs.length → w.cell? (x.add i) = some (.int k (zs.getD i 0))) ∧ ∀ n ∈ zs, (Lit.int k n).wf = true

theorem cell_ltB {w : World} {a : Addr} {v : Value} (h : w.cell? a = some v) : a.block < w.heap.size := by
  rcases Nat.lt_or_ge a.block w.heap.size with h' | h'
  · exact h'
  · simp [World.cell?, Array.getElem?_eq_none h'] at h
theorem spot_none {w : World} {a : Addr} {v : Value} (h : w.cell? a = some v) : a = ⟨a.block, a.off, none⟩ := by
  obtain ⟨b, o, sp⟩ := a
  cases sp with
  | none => rfl
  | some s =>
    simp only [World.cell?] at h
    split at h <;> simp at h
theorem IsRow.batC {w : World} {a0 : Option Addr} {len0 cap0 : Nat} {z0 : List Int} (w0 : IsRow .u8 w a0 len0 cap0 z0) : BAt w a0 len0 (z0.take len0) ∧ (len0 ≤ cap0 ∧ cap0 ≤ 9223372036854775807) ∧ (a0 = none → len0 = 0 ∧ cap0 = 0) ∧ ∀ x ∈ z0.take len0, 0 ≤ x ∧ x ≤ 255 := by
  rcases w0 with ⟨rfl, rfl, rfl, rfl⟩ | ⟨x, rfl, hl, hm, hz, hc, hwf⟩
  · exact ⟨⟨rfl, fun h => absurd h (Nat.lt_irrefl 0)⟩, ⟨Nat.zero_le _, Nat.zero_le _⟩, fun _ => ⟨rfl, rfl⟩, fun x hx => by cases hx⟩
  · refine ⟨⟨by simp; omega, fun h => ⟨x, rfl, ?_, fun i hi => ?_⟩⟩, ⟨hl, by unfold maxLen at hm; omega⟩, (fun h => by cases h), fun y hy => bounds_u8 (hwf y (List.mem_of_mem_take hy))⟩
    · have := cell_lt (hc 0 (by omega))
      rwa [add_block] at this
    · rw [hc i (by omega)]
      simp [List.getD, hi]
section
variable {H : Type} {enc : TypeId × Value → H} {w : World} {base : Nat} {held : Bool}
set_option maxRecDepth 100000 in
/-- A row of slots that came in, opened. -/
theorem open_slots {fuel : Nat} {cs : List Value} {x : DataW H × List MemPlace} (hf : DataW.trod enc Try.prog w base (fun _ => true) held fuel 37 cs = some x) :
    ∃ ao len cap E, cs = [.slice ao len cap] ∧ EnAt w ao len E ∧ len ≤ 9223372036854775807 ∧ ∀ j, j < len → (Lit.int .i64 (E j).ino).wf = true := by
  have cE : Try.prog.cellsOf 41 = 2 := by kernel_rfl
  have c3 : Try.prog.cellsOf 3 = 1 := by kernel_rfl
  have c9 : Try.prog.cellsOf 9 = 1 := by kernel_rfl
  rcases DataW.trod_slice Try.underlying37 hf with ⟨h0, -⟩ | ⟨a, len, cap, elems, rest, n, _, rfl, -, hb, hl, hm, hlen, hel, -, -⟩
  · exact ⟨none, 0, 0, fun _ => ⟨0, ⟨#[]⟩⟩, h0, fun h => absurd h (Nat.lt_irrefl 0), by omega, fun j hj => absurd hj (Nat.not_lt_zero j)⟩
  · have each : ∀ k, k < len → ∃ p : EnV, w.cell? (a.add (k * 2)) = some (.int .i64 p.ino) ∧ w.cell? (a.add (k * 2 + 1)) = some (.string p.nm) ∧ (Lit.int .i64 p.ino).wf = true := by
      intro k hk
      have h := hel k hk
      rw [cE, List.getElem?_eq_getElem (by omega), Option.bind_eq_some_iff] at h
      obtain ⟨cs', h1, h2⟩ := h
      obtain ⟨_, hln, hcell⟩ := World.cells?_some h1
      obtain ⟨ys, m, -, -, -, hyl, hfy⟩ := DataW.trod_struct Try.underlying41 h2
      simp at hyl
      have f0 := hfy 0 _ rfl
      have f1 := hfy 1 _ rfl
      match cs', hln, ys, hyl with
      | [v0, v1], _, [y0, y1], _ =>
        simp [c3, c9] at f0 f1
        have e0 := hcell 0 (by omega)
        have e1 := hcell 1 (by omega)
        rw [add_add] at e0 e1
        simp only [List.getElem?_cons_zero, List.getElem?_cons_succ] at e0 e1
        obtain ⟨z0, q0, _, w0⟩ := DataW.trod_int Try.underlying3 f0
        obtain ⟨z1, q1, _, _⟩ := DataW.trod_string Try.underlying9 f1
        simp at q0 q1
        subst q0 q1
        exact ⟨⟨z0, z1⟩, e0, e1, w0⟩
    classical
    let f : Nat → EnV := fun k => if h : k < len then (each k h).choose else ⟨0, ⟨#[]⟩⟩
    have hfk : ∀ k (h : k < len), f k = (each k h).choose := fun k h => dif_pos h
    refine ⟨some a, len, cap, f, rfl, fun h0 => ?_, by unfold maxLen at hm; omega, fun j hj => by rw [hfk j hj]; exact (each j hj).choose_spec.2.2⟩
    obtain ⟨p, h1, _⟩ := each 0 h0
    rw [show a.add (0 * 2) = a by simp [Addr.add]] at h1
    have hlt := cell_ltB h1
    have ha := spot_none h1
    refine ⟨a.block, a.off, by rw [← ha], hlt, fun j hj => ?_⟩
    rw [hfk j hj]
    have := (each j hj).choose_spec
    generalize (each j hj).choose = p at this ⊢
    rw [ha] at this
    simp only [add_at, ← Nat.add_assoc] at this
    exact ⟨this.1, this.2.1⟩
set_option maxRecDepth 100000 in
/-- A row of blocks that came in, opened. -/
theorem open_parts {fuel : Nat} {cs : List Value} {x : DataW H × List MemPlace} (hf : DataW.trod enc Try.prog w base (fun _ => true) held fuel 36 cs = some x) :
    ∃ ao len cap P, cs = [.slice ao len cap] ∧ PaAt w ao len P ∧ len ≤ 9223372036854775807 := by
  have cE : Try.prog.cellsOf 44 = 2 := by kernel_rfl
  have c3 : Try.prog.cellsOf 3 = 1 := by kernel_rfl
  have cB : Try.prog.cellsOf 42 = 1 := by kernel_rfl
  rcases DataW.trod_slice Try.underlying36 hf with ⟨h0, -⟩ | ⟨a, len, cap, elems, rest, n, _, rfl, -, hb, hl, hm, hlen, hel, -, -⟩
  · exact ⟨none, 0, 0, fun _ => ⟨0, none, 0, 0, []⟩, h0, fun h => absurd h (Nat.lt_irrefl 0), by omega⟩
  · have each : ∀ k, k < len → ∃ p : PaV, (w.cell? (a.add (k * 2)) = some (.int .i64 p.at') ∧ w.cell? (a.add (k * 2 + 1)) = some (.slice p.ao p.m p.cc)) ∧ BAt w p.ao p.m p.xs ∧ p.wf := by
      intro k hk
      have h := hel k hk
      rw [cE, List.getElem?_eq_getElem (by omega), Option.bind_eq_some_iff] at h
      obtain ⟨cs', h1, h2⟩ := h
      obtain ⟨_, hln, hcell⟩ := World.cells?_some h1
      obtain ⟨ys, m, -, -, -, hyl, hfy⟩ := DataW.trod_struct Try.underlying44 h2
      simp at hyl
      have f0 := hfy 0 _ rfl
      have f1 := hfy 1 _ rfl
      match cs', hln, ys, hyl with
      | [v0, v1], _, [y0, y1], _ =>
        simp [c3, cB] at f0 f1
        have e0 := hcell 0 (by omega)
        have e1 := hcell 1 (by omega)
        rw [add_add] at e0 e1
        simp only [List.getElem?_cons_zero, List.getElem?_cons_succ] at e0 e1
        obtain ⟨z0, q0, _, w0⟩ := DataW.trod_int Try.underlying3 f0
        simp at q0
        subst q0
        have hrow : ∃ ao l c zs, v1 = .slice ao l c ∧ IsRow .u8 w ao l c zs := by
          rcases open_ints Try.underlying42 Try.underlying5 (by kernel_rfl) f1 with ⟨hcs, _⟩ | ⟨x, l, c, zs, hcs, _, hl, hm, hz, _, hcell, hwz⟩
          · simp at hcs
            exact ⟨none, 0, 0, [], hcs, .inl ⟨rfl, rfl, rfl, rfl⟩⟩
          · simp at hcs
            exact ⟨some x, l, c, zs, hcs, .inr ⟨_, rfl, hl, hm, by simpa using hz, hcell, hwz⟩⟩
        obtain ⟨ao, l, c, zs, rfl, hr⟩ := hrow
        obtain ⟨r1, r2, r3, r4⟩ := hr.batC
        exact ⟨⟨z0, ao, l, c, zs.take l⟩, ⟨e0, e1⟩, r1, ⟨r2.1, r2.2, r3, r4⟩⟩
    classical
    let f : Nat → PaV := fun k => if h : k < len then (each k h).choose else ⟨0, none, 0, 0, []⟩
    have hfk : ∀ k (h : k < len), f k = (each k h).choose := fun k h => dif_pos h
    refine ⟨some a, len, cap, f, rfl, fun h0 => ?_, by unfold maxLen at hm; omega⟩
    obtain ⟨p, ⟨h1, _⟩, _⟩ := each 0 h0
    rw [show a.add (0 * 2) = a by simp [Addr.add]] at h1
    have hlt := cell_ltB h1
    have ha := spot_none h1
    refine ⟨a.block, a.off, by rw [← ha], hlt, fun j hj => ?_⟩
    rw [hfk j hj]
    have := (each j hj).choose_spec
    generalize (each j hj).choose = p at this ⊢
    rw [ha] at this
    simp only [add_at, ← Nat.add_assoc] at this
    exact this
set_option maxRecDepth 100000 in
/-- A row of nodes that came in, opened. -/
theorem open_nodes {fuel : Nat} {cs : List Value} {x : DataW H × List MemPlace} (hf : DataW.trod enc Try.prog w base (fun _ => true) held fuel 22 cs = some x) :
    ∃ ao len cap N, cs = [.slice ao len cap] ∧ NoAt w ao len N ∧ len ≤ 9223372036854775807 := by
  have cE : Try.prog.cellsOf 39 = 6 := by kernel_rfl
  have c3 : Try.prog.cellsOf 3 = 1 := by kernel_rfl
  have cP : Try.prog.cellsOf 36 = 1 := by kernel_rfl
  have cS : Try.prog.cellsOf 37 = 1 := by kernel_rfl
  rcases DataW.trod_slice Try.underlying22 hf with ⟨h0, -⟩ | ⟨a, len, cap, elems, rest, n, _, rfl, -, hb, hl, hm, hlen, hel, -, -⟩
  · exact ⟨none, 0, 0, fun _ => ⟨0, 0, 0, 0, none, 0, 0, fun _ => ⟨0, none, 0, 0, []⟩, none, 0, 0, fun _ => ⟨0, ⟨#[]⟩⟩⟩, h0, fun h => absurd h (Nat.lt_irrefl 0), by omega⟩
  · have each : ∀ k, k < len → ∃ p : NoV, (w.cell? (a.add (k * 6)) = some (.int .i64 p.ino) ∧ w.cell? (a.add (k * 6 + 1)) = some (.int .i64 p.kind) ∧ w.cell? (a.add (k * 6 + 2)) = some (.int .i64 p.links) ∧ w.cell? (a.add (k * 6 + 3)) = some (.int .i64 p.size) ∧ w.cell? (a.add (k * 6 + 4)) = some (.slice p.bo p.bn p.bc) ∧ w.cell? (a.add (k * 6 + 5)) = some (.slice p.so p.sn p.sc)) ∧ PaAt w p.bo p.bn p.P ∧ EnAt w p.so p.sn p.E ∧ p.wf := by
      intro k hk
      have h := hel k hk
      rw [cE, List.getElem?_eq_getElem (by omega), Option.bind_eq_some_iff] at h
      obtain ⟨cs', h1, h2⟩ := h
      obtain ⟨_, hln, hcell⟩ := World.cells?_some h1
      obtain ⟨ys, m, -, -, -, hyl, hfy⟩ := DataW.trod_struct Try.underlying39 h2
      simp at hyl
      have f0 := hfy 0 _ rfl
      have f1 := hfy 1 _ rfl
      have f2 := hfy 2 _ rfl
      have f3 := hfy 3 _ rfl
      have f4 := hfy 4 _ rfl
      have f5 := hfy 5 _ rfl
      match cs', hln, ys, hyl with
      | [v0, v1, v2, v3, v4, v5], _, [y0, y1, y2, y3, y4, y5], _ =>
        simp [c3, cP, cS] at f0 f1 f2 f3 f4 f5
        have e0 := hcell 0 (by omega)
        have e1 := hcell 1 (by omega)
        have e2 := hcell 2 (by omega)
        have e3 := hcell 3 (by omega)
        have e4 := hcell 4 (by omega)
        have e5 := hcell 5 (by omega)
        rw [add_add] at e0 e1 e2 e3 e4 e5
        simp only [List.getElem?_cons_zero, List.getElem?_cons_succ] at e0 e1 e2 e3 e4 e5
        obtain ⟨z0, q0, _, w0⟩ := DataW.trod_int Try.underlying3 f0
        obtain ⟨z1, q1, _, w1⟩ := DataW.trod_int Try.underlying3 f1
        obtain ⟨z2, q2, _, w2⟩ := DataW.trod_int Try.underlying3 f2
        obtain ⟨z3, q3, _, w3⟩ := DataW.trod_int Try.underlying3 f3
        obtain ⟨bo, bn, bc, P, q4, hP, hPn⟩ := open_parts f4
        obtain ⟨so, sn, sc, E, q5, hE, hEn, hEw⟩ := open_slots f5
        simp at q0 q1 q2 q3 q4 q5
        subst q0 q1 q2 q3 q4 q5
        exact ⟨⟨z0, z1, z2, z3, bo, bn, bc, P, so, sn, sc, E⟩, ⟨e0, e1, e2, e3, e4, e5⟩, hP, hE, ⟨hPn, hEn, w0, hEw⟩⟩
    classical
    let f : Nat → NoV := fun k => if h : k < len then (each k h).choose else ⟨0, 0, 0, 0, none, 0, 0, fun _ => ⟨0, none, 0, 0, []⟩, none, 0, 0, fun _ => ⟨0, ⟨#[]⟩⟩⟩
    have hfk : ∀ k (h : k < len), f k = (each k h).choose := fun k h => dif_pos h
    refine ⟨some a, len, cap, f, rfl, fun h0 => ?_, by unfold maxLen at hm; omega⟩
    obtain ⟨p, ⟨h1, _⟩, _⟩ := each 0 h0
    rw [show a.add (0 * 6) = a by simp [Addr.add]] at h1
    have hlt := cell_ltB h1
    have ha := spot_none h1
    refine ⟨a.block, a.off, by rw [← ha], hlt, fun j hj => ?_⟩
    rw [hfk j hj]
    have := (each j hj).choose_spec
    generalize (each j hj).choose = p at this ⊢
    rw [ha] at this
    simp only [add_at, ← Nat.add_assoc] at this
    exact this
end

theorem walk (a0 : Option Addr) (len0 cap0 : Nat) (A0 : Nat → NoV) (a1 : Option Addr) (len1 cap1 : Nat) (A1 : Nat → NoV) (w : World) (w0 : NoAt w a0 len0 A0) (w1 : NoAt w a1 len1 A1) (hl0 : len0 ≤ 9223372036854775807) (hl1 : len1 ≤ 9223372036854775807) :
    Calls Try.prog 5 #[.slice a0 len0 cap0, .slice a1 len1 cap1] w fun e w' => e = .returned (.bool true) ∧ Below w.heap.size w w' :=
  walksame_law (Hid.mk alive_any) w a0 len0 cap0 a1 len1 cap1 A0 A1 w0 w1 hl0 hl1

/-! ### THE ROW's STEP -/
set_option maxRecDepth 100000 in
theorem lifted (os : Os) (started : os.Started) (H : Type) (enc : TypeId × Value → H) :
    ReturnsInHanded {} Try.checked os 5 .any (Rows.walkSameSpec.pre6 enc Try.prog Try.f5 Rows.walkSameRow.domain false) (Rows.walkSameSpec.post enc Try.prog Try.f5 false true false false) := by
  refine returnsInHanded_of_change (C := Try.checked) own started (by kernel_rfl) Try.func5
    (ChangeSpec.witness6 (enc := enc) (C := Try.checked) false ⟨#[], #[.slice none 0 0, .slice none 0 0], []⟩ 8 (by kernel_rfl) (by kernel_rfl) (by kernel_rfl) (by kernel_rfl)) ?_
  intro W base args ds gs before hval0 hW hcnd _
  have hval : ∀ (j : Nat) t v, Try.f5.params[j]? = some t → args[j]? = some v → Value.okWide Try.prog W .any base t v := hval0
  have hW' := hW
  obtain ⟨p, q, hA0, hV, rfl, hfz, hnd⟩ := hW
  have hA : DataW.TrodAll enc Try.prog W 0 (fun _ => true) true Try.f5.params.toList args.toList ds p := hA0
  rw [Try.params5] at hA hval
  obtain ⟨v0, vs0, d0, ds0, p0, q0, hargs, rfl, rfl, h0, r0⟩ := trodAll_cons hA
  obtain ⟨v1, vs1, d1, ds1, p1, q1, rfl, rfl, rfl, h1, r1⟩ := trodAll_cons r0
  obtain ⟨rfl, rfl, rfl⟩ := trodAll_nil r1
  obtain rfl : args = #[v0, v1] := by cases args; simp_all
  obtain ⟨rfl, rfl⟩ := trodVars_none hV
  have k0 := h0
  have lt0 : ∀ x ∈ p0, x.block < W.heap.size := by obtain ⟨m, hm⟩ := k0; exact DataW.trod_lt m _ _ _ hm
  obtain ⟨a0, len0, cap0, ea0⟩ := okWide_slice Try.underlying22 (hval 0 22 v0 rfl rfl)
  subst ea0
  obtain ⟨A0, w0, WL0⟩ : ∃ A, NoAt W a0 len0 A ∧ len0 ≤ 9223372036854775807 := by
    obtain ⟨fuel, hf⟩ := h0
    obtain ⟨ao, len, cap, V, hcs, hA, hm⟩ := open_nodes hf
    simp [Value.cells] at hcs
    obtain ⟨rfl, rfl, rfl⟩ := hcs
    exact ⟨V, hA, hm⟩
  have k1 := h1
  have lt1 : ∀ x ∈ p1, x.block < W.heap.size := by obtain ⟨m, hm⟩ := k1; exact DataW.trod_lt m _ _ _ hm
  obtain ⟨a1, len1, cap1, ea1⟩ := okWide_slice Try.underlying22 (hval 1 22 v1 rfl rfl)
  subst ea1
  obtain ⟨A1, w1, WL1⟩ : ∃ A, NoAt W a1 len1 A ∧ len1 ≤ 9223372036854775807 := by
    obtain ⟨fuel, hf⟩ := h1
    obtain ⟨ao, len, cap, V, hcs, hA, hm⟩ := open_nodes hf
    simp [Value.cells] at hcs
    obtain ⟨rfl, rfl, rfl⟩ := hcs
    exact ⟨V, hA, hm⟩
  clear hA0 hval0
  refine (walk a0 len0 cap0 A0 a1 len1 cap1 A1 W w0 w1 WL0 WL1).mono fun e W' ⟨he, bel⟩ => ?_
  subst he
  exact ⟨_, rfl, _, _, _, [], _, [], hW', trodAll_mk1 (shut_bool Try.underlying4 _), (trodAll_cons_mk (Below.trod laidOut (by kernel_rfl) (of_decide_eq_true (by kernel_rfl)) k0 bel lt0) (trodAll_cons_mk (Below.trod laidOut (by kernel_rfl) (of_decide_eq_true (by kernel_rfl)) k1 bel lt1) trodAll_mk0)), rfl, bel.frame _, fun h => by cases h⟩

theorem over : Rows.walkSameRow.holds Try.pinned (OpenSpec.ofChange Rows.walkSameSpec) :=
  OpenClaim.holds_of_wide 5 Try.f5 rfl rfl rfl rfl rfl rfl rfl ⟨rfl, rfl, rfl, rfl, rfl⟩ rfl rfl rfl rfl rfl (by kernel_rfl) Try.func5 (by kernel_rfl)
    (of_decide_eq_true (by kernel_rfl)) (by unfold Func.isWrapper; first | (rw [if_pos (by decide +kernel)]; kernel_rfl) | (rw [if_neg (by decide +kernel)]; exact ⟨rfl, rfl⟩))
    (fun os started H enc _ => lifted os started H enc)

end Go.Proofs.Ytbahbhaoimabdaa.walkSame

namespace Go.Proofs.Ytbahbhaoimabdaa
theorem same_holds : Rows.WalkSameSaid := walkSame.over
#print axioms same_holds
end Go.Proofs.Ytbahbhaoimabdaa
