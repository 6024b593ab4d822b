/-
  For DepsDrain: something is ready; each write brings something.
-/
import Derived.Test.YthmbhcmicebcpaaDpBoth
namespace Go.Proofs.Ythmbhcmicebcpaa
open Go Go.Proofs Go.RowKit Go.Shelf
theorem may_ex {G : Gp} (hG : G.Ok) (h : 0 < cnt G) : ∃ i : Nat, i < G.n ∧ mayB G i = true := by
  have : ∃ j, j < G.n ∧ G.dn (j : Nat) = false := by
    unfold cnt at h
    obtain ⟨j, hj⟩ := List.exists_mem_of_length_pos h
    rw [List.mem_filter, List.mem_range] at hj
    exact ⟨j, hj.1, by simpa using hj.2⟩
  obtain ⟨j, hj1, hj2⟩ := this
  revert hj1 hj2
  induction j using Nat.strongRecOn with
  | _ j ih =>
    intro hj1 hj2
    by_cases hm : mayB G j = true
    · exact ⟨j, hj1, hm⟩
    · have hnm : ¬ mayP G (j : Nat) := fun q => hm ((may_iff hG ⟨by omega, by omega⟩).2 q)
      have hu : und G (j : Nat) := ⟨⟨by omega, by omega⟩, hj2⟩
      have : ∃ x, hng G (j : Nat) x := Classical.byContradiction (fun q => hnm ⟨hu, fun x hx => q ⟨x, hx⟩⟩)
      obtain ⟨x, hx, hxu⟩ := this
      have hd := hG.dag (j : Nat) x hu.1 hx
      have e : ((x.toNat : Nat) : Int) = x := by omega
      exact ih x.toNat (by omega) (by have := hxu.1.2; omega) (by rw [e]; exact hxu.2)
theorem cnt_fin_le (G : Gp) (i : Int) : cnt (G.fin i) ≤ cnt G := by
  unfold cnt
  rw [← List.countP_eq_length_filter, ← List.countP_eq_length_filter]
  refine List.countP_mono_left (fun j _ h => ?_)
  unfold Gp.fin at h
  simp only at h
  split at h
  · cases h
  · exact h
theorem cnt_fins_le (S : List Int) : ∀ G : Gp, cnt (G.fins S) ≤ cnt G := by
  induction S with
  | nil => intro G; exact Nat.le_refl _
  | cons i r ih => intro G; exact Nat.le_trans (ih (G.fin i)) (cnt_fin_le G i)
theorem cnt_pos {G : Gp} {i : Int} (h : und G i) : 0 < cnt G := by
  unfold cnt
  refine List.length_pos_of_mem (a := i.toNat) (List.mem_filter.2 ⟨List.mem_range.2 (by have := h.1; omega), ?_⟩)
  have e : ((i.toNat : Nat) : Int) = i := by have := h.1; omega
  show (!G.dn ((i.toNat : Nat) : Int)) = true
  rw [e, h.2]
  rfl
theorem cnt_fins_lt {G : Gp} {S : List Int} (h : ∀ i ∈ S, mayP G i) (hne : S ≠ []) : cnt (G.fins S) < cnt G := by
  cases S with
  | nil => exact absurd rfl hne
  | cons i r =>
    have hu := (h i (by simp)).1
    have h1 := cnt_fins_le r (G.fin i)
    have h2 := cnt_fin hu
    have h3 := cnt_pos hu
    show cnt ((G.fin i).fins r) < _
    omega
/-- A row of those that are ready: none of them is in vain. -/
theorem ready_ne {G : Gp} {A : Ga} (hR : Rel G A) (hG : G.Ok) {x : Int} (hx : x ∈ bufP G (fun j => mayB G j) G.n) : nxL A x ≠ [] ∧ (Lit.int .i64 x).wf = true := by
  obtain ⟨j, h1, h2, rfl⟩ := bufP_mem.1 hx
  refine ⟨fun e => ?_, hG.wf j ⟨by omega, by omega⟩⟩
  have := ((nx_pw hR (G.buf j)).2 (j : Int)).2 ⟨(may_iff hG ⟨by omega, by omega⟩).1 h2, rfl⟩
  rw [e] at this
  cases this
theorem bufs_none {G : Gp} (h : cnt G = 0) : bufP G (undB G) G.n = [] := by
  cases hb : bufP G (undB G) G.n with
  | nil => rfl
  | cons x r =>
    obtain ⟨j, h1, h2, _⟩ := bufP_mem.1 (by rw [hb]; simp : x ∈ bufP G (undB G) G.n)
    have := cnt_pos (G := G) (i := (j : Nat)) ⟨⟨by omega, by omega⟩, by simpa [undB] using h2⟩
    omega
section
variable {Y : Nat → Prop} {w W W' : World} {g r : Nat} {v u : Value} {G : Gp} {A : Ga}
theorem Bu.bo (h : Bu Y w W g r v u G A) : Bo Y w W g r v G A := by
  obtain ⟨Fr, h1, h2, h3, _⟩ := h
  exact ⟨Fr, h1, h2, h3⟩
theorem Bu.grow (h : Bu Y w W g r v u G A) (hB : Below W.heap.size W W') : Bu Y w W' g r v u G A := by
  obtain ⟨Fr, h1, h2, h3, h4⟩ := h
  exact ⟨Fr, h1.grow hB, h2.below hB, h3, h4⟩
theorem Bu.cell (h : Bu Y w W g r v u G A) : W.cell? ⟨r, 0, none⟩ = some v := by
  obtain ⟨Fr, h1, h2, _⟩ := h
  exact h2.cell
/-- The cells of the reference's row, and what a mark makes of it. -/
theorem Bu.at' (h : Bu Y w W g r v u G A) (h0 : 0 < G.n) : ∃ gb cap, v = .slice (some ⟨gb, 0, none⟩) G.n cap ∧ u.ownBlock ≠ some gb ∧ gb ≠ r ∧ (∀ j, W.frozen? ⟨gb, j, none⟩ = false) ∧ (∀ j : Nat, j < G.n → W.cell? ⟨gb, j * 3, none⟩ = some (.int .i64 (G.buf j)) ∧ (∃ ao m cc, W.cell? ⟨gb, j * 3 + 1, none⟩ = some (.slice ao m cc) ∧ LAt W ao m (G.on j) ∧ m ≤ 1000000) ∧ W.cell? ⟨gb, j * 3 + 2, none⟩ = some (.bool (G.dn j))) ∧ (∀ j : Nat, j < G.n → Bu Y w (W.setCell ⟨gb, j * 3 + 2, none⟩ (.bool true)) g r v u (G.fin j) A) := by
  obtain ⟨Fr, h1, h2, h3, h4⟩ := h
  obtain ⟨gb, cap, e, hne, hF, hl, hfz, hc⟩ := h2.at' h0
  subst e
  refine ⟨gb, cap, rfl, h4 gb hF, hne, hfz, hc, fun j hj => ?_⟩
  have hO : Only Fr W (W.setCell ⟨gb, j * 3 + 2, none⟩ (.bool true)) := (Only.refl Fr W).setCell (p := ⟨gb, j * 3 + 2, none⟩) (.inl hF) _
  exact ⟨Fr, h1.side hO (fun k q => .inl q) (fun k q => ⟨by have := (h1.bx k q).2; simp; exact this, .inl q⟩), h2.done hj, h3, h4⟩
end
theorem bu_written3 {Y : Nat → Prop} {w W : World} {g r : Nat} {v : Value} {G : Gp} {A : Ga} (h : Bo Y w W g r v G A) (hR : Rel G A) (hG : G.Ok) (hn : G.n < 800000) (b : Int) (hwb : (Lit.int .i64 b).wf = true) : Calls Try.prog 25 #[ptV g, .int .i64 b] W fun e W' => ∃ ao c, e = .returned (.slice ao (nxL A b).length c) ∧ Hid (LAt W' ao (nxL A b).length (nxL A b) ∧ Bu Y w W' g r v (.slice ao (nxL A b).length c) G (A.fins (nxL A b)) ∧ Ky Y W W' ∧ W.heap.size ≤ W'.heap.size) := by
  obtain ⟨Fr, h1, h2, h3⟩ := h
  refine (r_written2 h1 hR hG (by omega) hwb).mono ?_
  rintro e W' ⟨u, rfl, q1, q2, q3, q4⟩
  obtain ⟨ao, c, rfl, hla⟩ := owns_lat q1
  refine ⟨ao, c, rfl, Hid.mk ⟨hla, ⟨Fr, q2, h2.keep q3 (fun k q _ => q4 k (.inl q)), h3, fun k q e => ?_⟩, fun k q => q4 k (.inr q), q3⟩⟩
  have := (h1.bx k (.inl q)).2
  have := ((hr_of q1).2 k e).1
  omega
/-- The row of what was written, the row of what was ready, and both graphs. -/
def DSt (Y : Nat → Prop) (w : World) (g r : Nat) (v : Value) (aw : Option Addr) (mw cw : Nat) (S : List Int) (ab : Option Addr) (mb : Nat) (Bl : List Int) (G : Gp) (A : Ga) (W : World) : Prop := LAt W aw mw S ∧ LAt W ab mb Bl ∧ Bu Y w W g r v (.slice aw mw cw) G A
theorem DSt.grow {Y : Nat → Prop} {w : World} {g r : Nat} {v : Value} {aw : Option Addr} {mw cw : Nat} {S : List Int} {ab : Option Addr} {mb : Nat} {Bl : List Int} {G : Gp} {A : Ga} {W W' : World} (h : DSt Y w g r v aw mw cw S ab mb Bl G A W) (hB : Below W.heap.size W W') : DSt Y w g r v aw mw cw S ab mb Bl G A W' := ⟨h.1.next hB, h.2.1.next hB, h.2.2.grow hB⟩
end Go.Proofs.Ythmbhcmicebcpaa
