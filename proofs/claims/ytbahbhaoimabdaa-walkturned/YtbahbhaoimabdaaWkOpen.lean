/-
  Rows of nodes that came in, opened, with what bounds their lengths.
-/
import Derived.Test.YtbahbhaoimabdaaWkRow
import Derived.WalkKit
import Derived.ProofKit
import Derived.OpenShut
import Derived.SizedLaws
import Derived.ShutString
import Derived.ChangeOld
import Derived.Below
import Derived.Lib.SmallJoins
namespace Go.Proofs.Ytbahbhaoimabdaa.Wo
open Go.ChangeShapes Go.WideShapes Go.ChangeAt Go.RowKit Go.Joins
open Go.ChangeMaps (open_string shut_string)

theorem cell_lt {w : World} {a : Addr} {v : Value} (h : w.cell? a = some v) : a.block < w.heap.size := by
  rcases Nat.lt_or_ge a.block w.heap.size with h' | h'
  · exact h'
  · simp [World.cell?, Array.getElem?_eq_none h'] at h
/-- A row that came in. -/
def IsRow (k : IntKind) (w : World) (a : Option Addr) (len cap : Nat) (zs : List Int) : Prop :=
  (a = none ∧ len = 0 ∧ cap = 0 ∧ zs = []) ∨
  ∃ x, a = some x ∧ len ≤ cap ∧ cap ≤ maxLen ∧ zs.length = cap ∧ (∀ i, i < zs.length → w.cell? (x.add i) = some (.int k (zs.getD i 0))) ∧ ∀ n ∈ zs, (Lit.int k n).wf = true

theorem cell_ltB {w : World} {a : Addr} {v : Value} (h : w.cell? a = some v) : a.block < w.heap.size := by
  rcases Nat.lt_or_ge a.block w.heap.size with h' | h'
  · exact h'
  · simp [World.cell?, Array.getElem?_eq_none h'] at h
theorem spot_none {w : World} {a : Addr} {v : Value} (h : w.cell? a = some v) : a = ⟨a.block, a.off, none⟩ := by
  obtain ⟨b, o, sp⟩ := a
  cases sp with
  | none => rfl
  | some s =>
    simp only [World.cell?] at h
    split at h <;> simp at h
theorem IsRow.batC {w : World} {a0 : Option Addr} {len0 cap0 : Nat} {z0 : List Int} (w0 : IsRow .u8 w a0 len0 cap0 z0) : BAt w a0 len0 (z0.take len0) ∧ (len0 ≤ cap0 ∧ cap0 ≤ 9223372036854775807) ∧ (a0 = none → len0 = 0 ∧ cap0 = 0) ∧ ∀ x ∈ z0.take len0, 0 ≤ x ∧ x ≤ 255 := by
  rcases w0 with ⟨rfl, rfl, rfl, rfl⟩ | ⟨x, rfl, hl, hm, hz, hc, hwf⟩
  · exact ⟨⟨rfl, fun h => absurd h (Nat.lt_irrefl 0)⟩, ⟨Nat.zero_le _, Nat.zero_le _⟩, fun _ => ⟨rfl, rfl⟩, fun x hx => by cases hx⟩
  · refine ⟨⟨by simp; omega, fun h => ⟨x, rfl, ?_, fun i hi => ?_⟩⟩, ⟨hl, by unfold maxLen at hm; omega⟩, (fun h => by cases h), fun y hy => bounds_u8 (hwf y (List.mem_of_mem_take hy))⟩
    · have := cell_lt (hc 0 (by omega))
      rwa [add_block] at this
    · rw [hc i (by omega)]
      simp [List.getD, hi]
section
variable {H : Type} {enc : TypeId × Value → H} {w : World} {base : Nat} {held : Bool}
theorem weights_all {P : Program} {e : TypeId} {d : DataW H} {ds : List (DataW H)} (h : d ∈ ds) : ∀ q ∈ d.weights P e, q ∈ DataW.weightsAll P e ds := by
  induction ds with
  | nil => cases h
  | cons a ds ih =>
    intro q hq
    simp only [DataW.weightsAll, List.mem_append]
    rcases List.mem_cons.1 h with rfl | h
    · exact .inl hq
    · exact .inr (ih h q hq)
theorem slice_len {P : Program} {t e : TypeId} {k len : Nat} {x : DataW H × List MemPlace} {elems rest : List (DataW H × List MemPlace)} {L : List MemPlace} (ht : P.underlying t = some (.slice e)) (hk : P.bytesOf e = k) (h16 : 16 ≤ k) (hx : x = (.slice (elems.map (·.1)) (rest.map (·.1)), L)) (hl : elems.length = len) (hw : ∀ q ∈ x.1.weights P t, q ≤ reachBytes) : len ≤ 8796093022208 := by
  have h := hw ((elems.length + rest.length) * k) (by rw [hx]; simp [DataW.weights, ht, hk])
  have h2 : len * 16 ≤ (elems.length + rest.length) * k := Nat.mul_le_mul (by omega) h16
  unfold reachBytes at h
  omega
set_option maxRecDepth 100000 in
/-- A row of slots that came in, opened. -/
theorem open_slotsS {fuel : Nat} {cs : List Value} {x : DataW H × List MemPlace} (hf : DataW.trod enc Try.prog w base (fun _ => true) held fuel 37 cs = some x) :
    ∃ ao len cap E, cs = [.slice ao len cap] ∧ EnAt w ao len E ∧ len ≤ 9223372036854775807 ∧ (∀ j, j < len → (Lit.int .i64 (E j).ino).wf = true) ∧ ((∀ q ∈ x.1.weights Try.prog 37, q ≤ reachBytes) → len ≤ 8796093022208) := by
  have cE : Try.prog.cellsOf 41 = 2 := by kernel_rfl
  have c3 : Try.prog.cellsOf 3 = 1 := by kernel_rfl
  have c9 : Try.prog.cellsOf 9 = 1 := by kernel_rfl
  rcases DataW.trod_slice Try.underlying37 hf with ⟨h0, hx⟩ | ⟨a, len, cap, elems, rest, n, _, rfl, hx, hb, hl, hm, hlen, hel, -, -⟩
  · exact ⟨none, 0, 0, fun _ => ⟨0, ⟨#[]⟩⟩, h0, fun h => absurd h (Nat.lt_irrefl 0), by omega, fun j hj => absurd hj (Nat.not_lt_zero j), fun _ => by omega⟩
  · have each : ∀ k, k < len → ∃ p : EnV, w.cell? (a.add (k * 2)) = some (.int .i64 p.ino) ∧ w.cell? (a.add (k * 2 + 1)) = some (.string p.nm) ∧ (Lit.int .i64 p.ino).wf = true := by
      intro k hk
      have h := hel k hk
      rw [cE, List.getElem?_eq_getElem (by omega), Option.bind_eq_some_iff] at h
      obtain ⟨cs', h1, h2⟩ := h
      obtain ⟨_, hln, hcell⟩ := World.cells?_some h1
      obtain ⟨ys, m, -, -, -, hyl, hfy⟩ := DataW.trod_struct Try.underlying41 h2
      simp at hyl
      have f0 := hfy 0 _ rfl
      have f1 := hfy 1 _ rfl
      match cs', hln, ys, hyl with
      | [v0, v1], _, [y0, y1], _ =>
        simp [c3, c9] at f0 f1
        have e0 := hcell 0 (by omega)
        have e1 := hcell 1 (by omega)
        rw [add_add] at e0 e1
        simp only [List.getElem?_cons_zero, List.getElem?_cons_succ] at e0 e1
        obtain ⟨z0, q0, _, w0⟩ := DataW.trod_int Try.underlying3 f0
        obtain ⟨z1, q1, _, _⟩ := DataW.trod_string Try.underlying9 f1
        simp at q0 q1
        subst q0 q1
        exact ⟨⟨z0, z1⟩, e0, e1, w0⟩
    classical
    let f : Nat → EnV := fun k => if h : k < len then (each k h).choose else ⟨0, ⟨#[]⟩⟩
    have hfk : ∀ k (h : k < len), f k = (each k h).choose := fun k h => dif_pos h
    refine ⟨some a, len, cap, f, rfl, fun h0 => ?_, by unfold maxLen at hm; omega, fun j hj => by rw [hfk j hj]; exact (each j hj).choose_spec.2.2, fun hw => slice_len Try.underlying37 (by kernel_rfl : Try.prog.bytesOf 41 = 24) (by decide) hx hlen hw⟩
    obtain ⟨p, h1, _⟩ := each 0 h0
    rw [show a.add (0 * 2) = a by simp [Addr.add]] at h1
    have hlt := cell_ltB h1
    have ha := spot_none h1
    refine ⟨a.block, a.off, by rw [← ha], hlt, fun j hj => ?_⟩
    rw [hfk j hj]
    have := (each j hj).choose_spec
    generalize (each j hj).choose = p at this ⊢
    rw [ha] at this
    simp only [add_at, ← Nat.add_assoc] at this
    exact ⟨this.1, this.2.1⟩
set_option maxRecDepth 100000 in
/-- A row of blocks that came in, opened. -/
theorem open_partsS {fuel : Nat} {cs : List Value} {x : DataW H × List MemPlace} (hf : DataW.trod enc Try.prog w base (fun _ => true) held fuel 36 cs = some x) :
    ∃ ao len cap P, cs = [.slice ao len cap] ∧ PaAt w ao len P ∧ len ≤ 9223372036854775807 ∧ ((∀ q ∈ x.1.weights Try.prog 36, q ≤ reachBytes) → len ≤ 8796093022208) := by
  have cE : Try.prog.cellsOf 44 = 2 := by kernel_rfl
  have c3 : Try.prog.cellsOf 3 = 1 := by kernel_rfl
  have cB : Try.prog.cellsOf 42 = 1 := by kernel_rfl
  rcases DataW.trod_slice Try.underlying36 hf with ⟨h0, hx⟩ | ⟨a, len, cap, elems, rest, n, _, rfl, hx, hb, hl, hm, hlen, hel, -, -⟩
  · exact ⟨none, 0, 0, fun _ => ⟨0, none, 0, 0, []⟩, h0, fun h => absurd h (Nat.lt_irrefl 0), by omega, fun _ => by omega⟩
  · have each : ∀ k, k < len → ∃ p : PaV, (w.cell? (a.add (k * 2)) = some (.int .i64 p.at') ∧ w.cell? (a.add (k * 2 + 1)) = some (.slice p.ao p.m p.cc)) ∧ BAt w p.ao p.m p.xs ∧ p.wf := by
      intro k hk
      have h := hel k hk
      rw [cE, List.getElem?_eq_getElem (by omega), Option.bind_eq_some_iff] at h
      obtain ⟨cs', h1, h2⟩ := h
      obtain ⟨_, hln, hcell⟩ := World.cells?_some h1
      obtain ⟨ys, m, -, -, -, hyl, hfy⟩ := DataW.trod_struct Try.underlying44 h2
      simp at hyl
      have f0 := hfy 0 _ rfl
      have f1 := hfy 1 _ rfl
      match cs', hln, ys, hyl with
      | [v0, v1], _, [y0, y1], _ =>
        simp [c3, cB] at f0 f1
        have e0 := hcell 0 (by omega)
        have e1 := hcell 1 (by omega)
        rw [add_add] at e0 e1
        simp only [List.getElem?_cons_zero, List.getElem?_cons_succ] at e0 e1
        obtain ⟨z0, q0, _, w0⟩ := DataW.trod_int Try.underlying3 f0
        simp at q0
        subst q0
        have hrow : ∃ ao l c zs, v1 = .slice ao l c ∧ IsRow .u8 w ao l c zs := by
          rcases open_ints Try.underlying42 Try.underlying5 (by kernel_rfl) f1 with ⟨hcs, _⟩ | ⟨x, l, c, zs, hcs, _, hl, hm, hz, _, hcell, hwz⟩
          · simp at hcs
            exact ⟨none, 0, 0, [], hcs, .inl ⟨rfl, rfl, rfl, rfl⟩⟩
          · simp at hcs
            exact ⟨some x, l, c, zs, hcs, .inr ⟨_, rfl, hl, hm, by simpa using hz, hcell, hwz⟩⟩
        obtain ⟨ao, l, c, zs, rfl, hr⟩ := hrow
        obtain ⟨r1, r2, r3, r4⟩ := hr.batC
        exact ⟨⟨z0, ao, l, c, zs.take l⟩, ⟨e0, e1⟩, r1, ⟨r2.1, r2.2, r3, r4⟩⟩
    classical
    let f : Nat → PaV := fun k => if h : k < len then (each k h).choose else ⟨0, none, 0, 0, []⟩
    have hfk : ∀ k (h : k < len), f k = (each k h).choose := fun k h => dif_pos h
    refine ⟨some a, len, cap, f, rfl, fun h0 => ?_, by unfold maxLen at hm; omega, fun hw => slice_len Try.underlying36 (by kernel_rfl : Try.prog.bytesOf 44 = 32) (by decide) hx hlen hw⟩
    obtain ⟨p, ⟨h1, _⟩, _⟩ := each 0 h0
    rw [show a.add (0 * 2) = a by simp [Addr.add]] at h1
    have hlt := cell_ltB h1
    have ha := spot_none h1
    refine ⟨a.block, a.off, by rw [← ha], hlt, fun j hj => ?_⟩
    rw [hfk j hj]
    have := (each j hj).choose_spec
    generalize (each j hj).choose = p at this ⊢
    rw [ha] at this
    simp only [add_at, ← Nat.add_assoc] at this
    exact this
set_option maxRecDepth 100000 in
/-- A row of nodes that came in, opened. -/
theorem open_nodesS {fuel : Nat} {cs : List Value} {x : DataW H × List MemPlace} (hf : DataW.trod enc Try.prog w base (fun _ => true) held fuel 22 cs = some x) :
    ∃ ao len cap N, cs = [.slice ao len cap] ∧ NoAt w ao len N ∧ len ≤ 9223372036854775807 ∧ ((∀ q ∈ x.1.weights Try.prog 22, q ≤ reachBytes) → len ≤ 8796093022208 ∧ ∀ j, j < len → (N j).sn ≤ 8796093022208 ∧ (N j).bn ≤ 8796093022208) := by
  have cE : Try.prog.cellsOf 39 = 6 := by kernel_rfl
  have c3 : Try.prog.cellsOf 3 = 1 := by kernel_rfl
  have cP : Try.prog.cellsOf 36 = 1 := by kernel_rfl
  have cS : Try.prog.cellsOf 37 = 1 := by kernel_rfl
  rcases DataW.trod_slice Try.underlying22 hf with ⟨h0, hx⟩ | ⟨a, len, cap, elems, rest, n, _, rfl, hx, hb, hl, hm, hlen, hel, -, -⟩
  · exact ⟨none, 0, 0, fun _ => ⟨0, 0, 0, 0, none, 0, 0, fun _ => ⟨0, none, 0, 0, []⟩, none, 0, 0, fun _ => ⟨0, ⟨#[]⟩⟩⟩, h0, fun h => absurd h (Nat.lt_irrefl 0), by omega, fun _ => ⟨by omega, fun j hj => absurd hj (Nat.not_lt_zero j)⟩⟩
  · have each : ∀ k, k < len → ∃ p : NoV, (w.cell? (a.add (k * 6)) = some (.int .i64 p.ino) ∧ w.cell? (a.add (k * 6 + 1)) = some (.int .i64 p.kind) ∧ w.cell? (a.add (k * 6 + 2)) = some (.int .i64 p.links) ∧ w.cell? (a.add (k * 6 + 3)) = some (.int .i64 p.size) ∧ w.cell? (a.add (k * 6 + 4)) = some (.slice p.bo p.bn p.bc) ∧ w.cell? (a.add (k * 6 + 5)) = some (.slice p.so p.sn p.sc)) ∧ PaAt w p.bo p.bn p.P ∧ EnAt w p.so p.sn p.E ∧ p.wf ∧ ((∀ q ∈ x.1.weights Try.prog 22, q ≤ reachBytes) → p.sn ≤ 8796093022208 ∧ p.bn ≤ 8796093022208) := by
      intro k hk
      have h := hel k hk
      rw [cE, List.getElem?_eq_getElem (by omega), Option.bind_eq_some_iff] at h
      obtain ⟨cs', h1, h2⟩ := h
      obtain ⟨_, hln, hcell⟩ := World.cells?_some h1
      obtain ⟨ys, m, -, hyx, -, hyl, hfy⟩ := DataW.trod_struct Try.underlying39 h2
      simp at hyl
      have f0 := hfy 0 _ rfl
      have f1 := hfy 1 _ rfl
      have f2 := hfy 2 _ rfl
      have f3 := hfy 3 _ rfl
      have f4 := hfy 4 _ rfl
      have f5 := hfy 5 _ rfl
      match cs', hln, ys, hyl with
      | [v0, v1, v2, v3, v4, v5], _, [y0, y1, y2, y3, y4, y5], _ =>
        simp [c3, cP, cS] at f0 f1 f2 f3 f4 f5
        have e0 := hcell 0 (by omega)
        have e1 := hcell 1 (by omega)
        have e2 := hcell 2 (by omega)
        have e3 := hcell 3 (by omega)
        have e4 := hcell 4 (by omega)
        have e5 := hcell 5 (by omega)
        rw [add_add] at e0 e1 e2 e3 e4 e5
        simp only [List.getElem?_cons_zero, List.getElem?_cons_succ] at e0 e1 e2 e3 e4 e5
        obtain ⟨z0, q0, _, w0⟩ := DataW.trod_int Try.underlying3 f0
        obtain ⟨z1, q1, _, w1⟩ := DataW.trod_int Try.underlying3 f1
        obtain ⟨z2, q2, _, w2⟩ := DataW.trod_int Try.underlying3 f2
        obtain ⟨z3, q3, _, w3⟩ := DataW.trod_int Try.underlying3 f3
        obtain ⟨bo, bn, bc, P, q4, hP, hPn, hPs⟩ := open_partsS f4
        obtain ⟨so, sn, sc, E, q5, hE, hEn, hEw, hEs⟩ := open_slotsS f5
        simp at q0 q1 q2 q3 q4 q5
        subst q0 q1 q2 q3 q4 q5
        refine ⟨⟨z0, z1, z2, z3, bo, bn, bc, P, so, sn, sc, E⟩, ⟨e0, e1, e2, e3, e4, e5⟩, hP, hE, ⟨hPn, hEn, w0, hEw⟩, fun hw => ?_⟩
        have hin : ∀ q ∈ (elems[k]'(by omega)).1.weights Try.prog 39, q ≤ reachBytes := fun q hq => hw q (by
          rw [hx]
          simp only [DataW.weights, Try.underlying22]
          exact List.mem_cons_of_mem _ (List.mem_append_left _ (weights_all (List.mem_map.2 ⟨_, List.getElem_mem (by omega), rfl⟩) q hq)))
        rw [hyx] at hin
        simp only [List.map_cons, List.map_nil, DataW.weights, Try.underlying39] at hin
        exact ⟨hEs (fun q hq => hin q (DataW.weights_mem_each (j := 5) rfl rfl q hq)), hPs (fun q hq => hin q (DataW.weights_mem_each (j := 4) rfl rfl q hq))⟩
    classical
    let f : Nat → NoV := fun k => if h : k < len then (each k h).choose else ⟨0, 0, 0, 0, none, 0, 0, fun _ => ⟨0, none, 0, 0, []⟩, none, 0, 0, fun _ => ⟨0, ⟨#[]⟩⟩⟩
    have hfk : ∀ k (h : k < len), f k = (each k h).choose := fun k h => dif_pos h
    refine ⟨some a, len, cap, f, rfl, fun h0 => ?_, by unfold maxLen at hm; omega, fun hw => ⟨slice_len Try.underlying22 (by kernel_rfl : Try.prog.bytesOf 39 = 80) (by decide) hx hlen hw, fun j hj => by rw [hfk j hj]; exact (each j hj).choose_spec.2.2.2.2 hw⟩⟩
    obtain ⟨p, ⟨h1, _⟩, _⟩ := each 0 h0
    rw [show a.add (0 * 6) = a by simp [Addr.add]] at h1
    have hlt := cell_ltB h1
    have ha := spot_none h1
    refine ⟨a.block, a.off, by rw [← ha], hlt, fun j hj => ?_⟩
    rw [hfk j hj]
    have := (each j hj).choose_spec
    generalize (each j hj).choose = p at this ⊢
    rw [ha] at this
    simp only [add_at, ← Nat.add_assoc] at this
    exact ⟨this.1, this.2.1, this.2.2.1, this.2.2.2.1⟩
end
end Go.Proofs.Ytbahbhaoimabdaa.Wo
