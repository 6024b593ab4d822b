/-
  Ready of a graph to which nothing was added yet.
-/
import Derived.Test.YthmbhcmicebcpaaDpRneed
import Derived.Laws.IdiomRangeMap
namespace Go.Proofs.Ythmbhcmicebcpaa
open Go Go.Proofs Go.RowKit Go.Shelf Go.Maps
attribute [local go_sem] Oper.semAt_some
section
variable {F X : Nat → Prop} {w W : World} {g : Nat} {D : Gd} {A : Ga} {G : Gp}
set_option maxRecDepth 100000 in
set_option maxHeartbeats 4000000 in
theorem ready_nil (h : GrAt F w g D) (hbm : D.bm = none) : Calls Try.prog 22 #[ptV g] w fun e w' => ∃ v, e = .returned v ∧ w'.ownsRow w.heap.size 3 1 v ([] : List Int).length (Iy []) ∧ Below w.heap.size w w' := by
  obtain ⟨_, _, g2, _⟩ := h.cellsG
  rw [hbm] at g2
  have hrg := run_range_nilMap (P := Try.prog) w 58 _ _ Try.underlying58
  have hnx : ∀ ty, (Instr.next (.pointer (some ⟨w.heap.size, 0, none⟩)) false ty).run Try.prog (w.alloc (.mapIter none 0 #[] 0)) = _ := fun ty => run_next_nilMap _ ty 0 0 #[]
  have HSORT := Hid.mk (sort_row (w.alloc (.mapIter none 0 #[] 0)) w.heap.size (.slice none 0 0) [] (own_nil0 _ _) (by simp) (by simp))
  have HB0 : Hid (Below w.heap.size w (w.alloc (.mapIter none 0 #[] 0))) := Hid.mk ((Below.refl _ w).alloc (Nat.le_refl _) _)
  rw [List.mergeSort_nil] at HSORT
  clear h hbm
  go_enter Try.func22, Try.ntmps22
  go_wp2
  refine wp_loop_rounds 1 ?_
  rw [rounds_succ]
  go_wp2_with (first
    | (go_at_call 39; refine HSORT.out.mono ?_; rintro e w9 ⟨rfl, hr9, hB9⟩; have H9 := Hid.mk (And.intro hr9 hB9); clear hr9 hB9)
    | go_in)
  go_ret
  exact ⟨_, rfl, H9.out.1, HB0.out.trans H9.out.2⟩
theorem r_ready2 (hO : DpO X w W g A) (h : Rel G A) (hG : G.Ok) (hn : G.n < 900000) : Calls Try.prog 22 #[ptV g] W fun e W' => ∃ v, e = .returned v ∧ Hid (W'.ownsRow W.heap.size 3 1 v (bufP G (fun j => mayB G j) G.n).length (Iy (bufP G (fun j => mayB G j) G.n)) ∧ Below W.heap.size W W') := by
  rcases Nat.eq_zero_or_pos G.n with h0 | h0
  · have hmb := h.mb
    obtain ⟨D, h1, rfl, h3, h4⟩ := hO
    have hb : D.bm = none := by
      have h9 : D.bm.isSome = decide (0 < G.n) := hmb
      rw [h0] at h9
      cases hb : D.bm with
      | none => rfl
      | some b => rw [hb] at h9; cases h9
    refine (ready_nil h1 hb).mono ?_
    rintro e W' ⟨v, rfl, q1, q2⟩
    have e0 : bufP G (fun j => mayB G j) G.n = [] := by
      rw [h0]
      cases hh : bufP G (fun j => mayB G j) 0 with
      | nil => rfl
      | cons x r =>
        have : x ∈ bufP G (fun j => mayB G j) 0 := by rw [hh]; simp
        rw [bufP_mem] at this
        obtain ⟨j, q, _⟩ := this
        omega
    rw [e0]
    exact ⟨v, rfl, Hid.mk ⟨q1, q2⟩⟩
  · exact r_ready hO h hG hn h0
end
end Go.Proofs.Ythmbhcmicebcpaa
