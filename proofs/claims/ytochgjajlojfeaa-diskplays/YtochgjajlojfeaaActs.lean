/-
  A row of acts that came in, opened: what its cells hold.
-/
import Derived.Test.YtochgjajlojfeaaAgainWalk
import Derived.Deep.Slices
import Derived.Lib.SmallJoins
import Derived.ProofKit
import Derived.OpenShut
namespace Go.Proofs.Ytochgjajlojfeaa
open Go Go.Proofs Go.RowKit Go.Shelf Go.ChangeShapes Go.WideShapes Go.ChangeAt

theorem spot_none {w : World} {a : Addr} {v : Value} (h : w.cell? a = some v) : a = ⟨a.block, a.off, none⟩ := by
  obtain ⟨b, o, sp⟩ := a
  cases sp with
  | none => rfl
  | some s =>
    simp only [World.cell?] at h
    split at h <;> simp at h

/-- A row of acts that came in, opened. -/
theorem open_acts {H : Type} {enc : TypeId × Value → H} {W : World} {fuel : Nat} {cs : List Value} {x : DataW H × List MemPlace} (hf : DataW.trod enc Try.prog W 0 (fun _ => true) true fuel 22 cs = some x) :
    cs = [.slice none 0 0] ∨ ∃ a len cap A, cs = [.slice (some a) len cap] ∧ len ≤ cap ∧ cap ≤ maxLen ∧ ActsAt W (some a) len A := by
  have c32 : Try.prog.cellsOf 32 = 4 := by kernel_rfl
  have c3 : Try.prog.cellsOf 3 = 1 := by kernel_rfl
  have c27 : Try.prog.cellsOf 27 = 1 := by kernel_rfl
  have c5 : Try.prog.cellsOf 5 = 1 := by kernel_rfl
  rcases Go.Deep.open_slice Try.underlying22 hf with h0 | ⟨a, len, cap, m, n, D, Pl, rfl, hb, hl, hm, hmm, rfl, hx⟩
  · exact .inl h0.1
  right
  rw [if_pos rfl] at hmm
  have each : ∀ i, i < len → ∃ V : ActV, ∃ b off, a = ⟨b, off, none⟩ ∧ b < W.heap.size ∧ ActAt W b (off + i * 4) V := by
    intro i hi
    obtain ⟨cs', h1, h2⟩ := hx i (by omega)
    rw [c32] at h1
    obtain ⟨_, hlen, hcell⟩ := World.cells?_some h1
    obtain ⟨y0, y1, y2, y3, k, _, _, g0, g1, g2, g3⟩ := Go.Joins.trod_struct4 Try.underlying32 h2
    match cs', hlen with
    | [v0, v1, v2, v3], _ =>
      simp [c3, c27] at g0 g1 g2 g3
      have e0 := hcell 0 (by omega)
      have e1 := hcell 1 (by omega)
      have e2 := hcell 2 (by omega)
      have e3 := hcell 3 (by omega)
      rw [add_add] at e0 e1 e2 e3
      simp only [List.getElem?_cons_zero, List.getElem?_cons_succ] at e0 e1 e2 e3
      obtain ⟨z0, f0, _, w0⟩ := DataW.trod_int Try.underlying3 g0
      obtain ⟨z1, f1, _, w1⟩ := DataW.trod_int Try.underlying3 g1
      obtain ⟨z2, f2, _, w2⟩ := DataW.trod_int Try.underlying3 g2
      simp at f0 f1 f2
      subst f0 f1 f2
      have ha : ∃ b off, a = ⟨b, off, none⟩ := by
        obtain ⟨cs0, h10, h20⟩ := hx 0 (by omega)
        rw [c32] at h10
        obtain ⟨_, hlen0, hcell0⟩ := World.cells?_some h10
        have e00 := hcell0 0 (by omega)
        rw [add_add, Nat.zero_mul] at e00
        have hv : ∃ v, W.cell? a = some v := by
          cases hc : cs0[0]? with
          | none => simp at hc; rw [hc] at hlen0; simp at hlen0
          | some v => exact ⟨v, by rw [hc] at e00; exact e00⟩
        obtain ⟨v, hv⟩ := hv
        exact ⟨a.block, a.off, spot_none hv⟩
      obtain ⟨b, off, rfl⟩ := ha
      rw [add_at] at e0 e1 e2 e3
      have hblt : b < W.heap.size := cell_lt e0
      have bd0 := bounds_i64 w0
      have bd1 := bounds_i64 w1
      have bd2 := bounds_i64 w2
      rcases open_ints Try.underlying27 Try.underlying5 c5 g3 with ⟨hcs, _⟩ | ⟨x3, l3, p3, zs, hcs, _, hl3, hm3, hz3, _, hcell3, hwz3⟩
      · simp at hcs
        subst hcs
        exact ⟨⟨z0, z1, z2, none, 0, 0, []⟩, b, off, rfl, hblt, ⟨e0, e1, e2, e3, bd0, bd1, bd2, ⟨rfl, fun h => absurd h (Nat.lt_irrefl 0)⟩, Nat.le_refl _, Nat.zero_le _, fun _ => ⟨rfl, rfl⟩, fun x hx => by cases hx⟩⟩
      · simp at hcs
        subst hcs
        rw [if_pos rfl] at hz3
        refine ⟨⟨z0, z1, z2, some x3, l3, p3, zs.take l3⟩, b, off, rfl, hblt, ⟨e0, e1, e2, e3, bd0, bd1, bd2, ⟨by simp; omega, fun h => ⟨x3, rfl, ?_, fun i hi => ?_⟩⟩, hl3, (by unfold maxLen at hm3; dsimp only; omega), (fun h => by cases h), fun x hx => bounds_u8 (hwz3 x (List.mem_of_mem_take hx))⟩⟩
        · have := cell_lt (hcell3 0 (by dsimp only at h; omega))
          rwa [add_block] at this
        · dsimp only at hi ⊢
          rw [hcell3 i (by omega)]
          simp [List.getD, hi]
  by_cases h0 : 0 < len
  · obtain ⟨f, hfm⟩ := Go.Deep.choose_lt each
    refine ⟨a, len, cap, f, rfl, hl, hm, fun _ => ?_⟩
    obtain ⟨b, off, rfl, hblt, _⟩ := hfm 0 h0
    refine ⟨b, off, rfl, hblt, fun i hi => ?_⟩
    obtain ⟨b', off', e, _, h⟩ := hfm i hi
    cases e
    exact h
  · exact ⟨a, len, cap, fun _ => default, rfl, hl, hm, fun h => absurd h h0⟩

end Go.Proofs.Ytochgjajlojfeaa
