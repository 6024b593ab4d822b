/-
  What DepsPlay asks of both sides: at any later world the same row.
-/
import Derived.Test.YthmbhcmicebcpaaDpRnil
import Derived.Test.YthmbhcmicebcpaaLayDr
import Derived.Test.YthmbhcmicebcpaaDpChA
namespace Go.Proofs.Ythmbhcmicebcpaa
open Go Go.Proofs Go.RowKit Go.Shelf
/-- At every later world the function hands over this row. -/
def GivesL (W0 : World) (f : Nat) (args : Array Value) (L : List Int) : Prop :=
  ∀ W, Below W0.heap.size W0 W → Calls Try.prog f args W fun e W' => ∃ a c, e = .returned (.slice a L.length c) ∧ Hid (LAt W' a L.length L ∧ Below W.heap.size W W')
theorem gives_of {W0 : World} {f : Nat} {args : Array Value} {L : List Int} (h : ∀ W, Below W0.heap.size W0 W → Calls Try.prog f args W fun e W' => ∃ u, e = .returned u ∧ Hid (W'.ownsRow W.heap.size 3 1 u L.length (Iy L) ∧ Below W.heap.size W W')) : GivesL W0 f args L := fun W hB => (h W hB).mono (by
  rintro e W' ⟨u, rfl, HQ⟩
  obtain ⟨a, c, rfl, hla⟩ := owns_lat HQ.out.1
  exact ⟨a, c, rfl, Hid.mk ⟨hla, HQ.out.2⟩⟩)
section
variable {w W0 : World} {g r : Nat} {v : Value} {G : Gp} {A : Ga}
theorem pl_next (h : Bo (fun _ => False) w W0 g r v G A) (hR : Rel G A) (hG : G.Ok) (hn : G.n ≤ 150) (b : Int) (hw : (Lit.int .i64 b).wf = true) : GivesL W0 16 #[ptV g, .int .i64 b] (nxL A b) ∧ GivesL W0 17 #[ptV r, .int .i64 b] (nxL A b) ∧ (nxL A b).length ≤ 150 := by
  refine ⟨gives_of fun W hB => ?_, gives_of fun W hB => ?_, ?_⟩
  · obtain ⟨Fr, h1, _⟩ := h.grow hB
    refine (o_next h1 (rel_fit hR hG (by omega)).ok hw).mono ?_
    rintro e W' ⟨u, rfl, q⟩
    exact ⟨u, rfl, Hid.mk q⟩
  · obtain ⟨Fr, _, h2, _⟩ := h.grow hB
    rw [← nx_same hR hG b]
    exact rnext_any h2 hG (by omega) b
  · rw [← nx_same hR hG b]
    have := pick_len (nxB G b) G.n
    omega
theorem pl_blocked (h : Bo (fun _ => False) w W0 g r v G A) (hR : Rel G A) (hG : G.Ok) (hn : G.n ≤ 150) (b : Int) (hw : (Lit.int .i64 b).wf = true) : GivesL W0 18 #[ptV g, .int .i64 b] (blL A b) ∧ GivesL W0 19 #[ptV r, .int .i64 b] (blL A b) ∧ (blL A b).length ≤ 150 := by
  refine ⟨gives_of fun W hB => ?_, gives_of fun W hB => ?_, ?_⟩
  · obtain ⟨Fr, h1, _⟩ := h.grow hB
    refine (o_blocked h1 (rel_fit hR hG (by omega)).ok hw).mono ?_
    rintro e W' ⟨u, rfl, q⟩
    exact ⟨u, rfl, Hid.mk q⟩
  · obtain ⟨Fr, _, h2, _⟩ := h.grow hB
    rw [← bl_same hR hG b]
    exact rblocked_any h2 hG (by omega) b
  · rw [← bl_same hR hG b]
    have := pick_len (blB G b) G.n
    omega
theorem pl_bufs (h : Bo (fun _ => False) w W0 g r v G A) (hR : Rel G A) (hG : G.Ok) (hn : G.n ≤ 150) : GivesL W0 20 #[ptV g] (bufP G (undB G) G.n) ∧ GivesL W0 21 #[ptV r, .bool false] (bufP G (undB G) G.n) ∧ (bufP G (undB G) G.n).length ≤ 150 ∧ ∀ x ∈ bufP G (undB G) G.n, (Lit.int .i64 x).wf = true := by
  refine ⟨gives_of fun W hB => ?_, gives_of fun W hB => ?_, ?_, (bufP_rise hG _).2⟩
  · obtain ⟨Fr, h1, _⟩ := h.grow hB
    exact r_bufs h1 hR hG (by omega)
  · obtain ⟨Fr, _, h2, _⟩ := h.grow hB
    have := rbufs_any h2 hG (by omega) false
    rw [show (fun j : Nat => !G.dn j && (mayB G j || !false)) = undB G by funext j; simp [undB]] at this
    exact this
  · have := bufP_len G (undB G) G.n
    omega
theorem may_und {G : Gp} {j : Nat} : (!G.dn j && (mayB G j || !true)) = mayB G j := by
  cases hd : G.dn j <;> simp [mayB, hd]
theorem pl_ready (h : Bo (fun _ => False) w W0 g r v G A) (hR : Rel G A) (hG : G.Ok) (hn : G.n ≤ 150) : GivesL W0 22 #[ptV g] (bufP G (fun j => mayB G j) G.n) ∧ GivesL W0 21 #[ptV r, .bool true] (bufP G (fun j => mayB G j) G.n) ∧ (bufP G (fun j => mayB G j) G.n).length ≤ 150 := by
  refine ⟨gives_of fun W hB => ?_, gives_of fun W hB => ?_, ?_⟩
  · obtain ⟨Fr, h1, _⟩ := h.grow hB
    exact r_ready2 h1 hR hG (by omega)
  · obtain ⟨Fr, _, h2, _⟩ := h.grow hB
    have := rbufs_any h2 hG (by omega) true
    rw [show (fun j : Nat => !G.dn j && (mayB G j || !true)) = (fun j : Nat => mayB G j) by funext j; exact may_und] at this
    exact this
  · have := bufP_len G (fun j => mayB G j) G.n
    omega
theorem pl_need (h : Bo (fun _ => False) w W0 g r v G A) (hR : Rel G A) (hG : G.Ok) (hn : G.n ≤ 150) (ao : Option Addr) (m cc : Nat) (xs : List Int) (hx : ∀ W, Below W0.heap.size W0 W → LAt W ao m xs) (hw : ∀ x ∈ xs, (Lit.int .i64 x).wf = true) (hm : m ≤ 200) : GivesL W0 23 #[ptV g, .slice ao m cc] (needL G xs) ∧ GivesL W0 24 #[ptV r, .slice ao m cc] (needL G xs) ∧ (needL G xs).length ≤ 150 := by
  refine ⟨gives_of fun W hB => ?_, gives_of fun W hB => ?_, ?_⟩
  · obtain ⟨Fr, h1, _⟩ := h.grow hB
    exact r_need h1 hR (by omega) ao m cc xs (hx W hB) hw (by omega)
  · obtain ⟨Fr, _, h2, _⟩ := h.grow hB
    exact rneed_any h2 hG (by omega) ao m cc xs (hx W hB) (by omega)
  · have := rise_len (need_pw G xs) (fun z hz => (need_mem.1 hz).1.1)
    omega
theorem pl_left (h : Bo (fun _ => False) w W0 g r v G A) (hR : Rel G A) : ∀ W, Below W0.heap.size W0 W → (Calls Try.prog 13 #[ptV g] W fun e W' => e = .returned (.int .i64 (cnt G : Nat)) ∧ W' = W) ∧ (Calls Try.prog 14 #[ptV r] W fun e W' => e = .returned (.int .i64 (cnt G : Nat)) ∧ W' = W) := fun W hB => by
  obtain ⟨Fr, h1, h2, _⟩ := h.grow hB
  have := o_left h1
  rw [hR.nl] at this
  exact ⟨this, rleft_any h2⟩
/-- Whether a change is there and done. -/
def doneP (G : Gp) (x : Int) : Bool := decide (0 ≤ x) && decide (x < G.n) && G.dn x
theorem pl_done (h : Bo (fun _ => False) w W0 g r v G A) (hR : Rel G A) (x : Int) (hx : (Lit.int .i64 x).wf = true) : ∀ W, Below W0.heap.size W0 W → Calls Try.prog 12 #[ptV g, .int .i64 x] W fun e W' => e = .returned (.bool (doneP G x)) ∧ W' = W := fun W hB => by
  obtain ⟨Fr, h1, _⟩ := h.grow hB
  have := r_done h1 hR x hx
  have e : (!noneB G.n x && (A.ch x).isNone) = doneP G x := by
    unfold doneP noneB
    by_cases hi : 0 ≤ x ∧ x < (G.n : Int)
    · have hc : (A.ch x).isSome = true ↔ und G x := hR.h.ch x
      rw [decide_eq_false (by omega : ¬ (x < 0 ∨ (G.n : Int) ≤ x)), decide_eq_true hi.1, decide_eq_true hi.2]
      cases hd : G.dn x with
      | false =>
        have := hc.2 ⟨hi, hd⟩
        cases hq : A.ch x with
        | none => rw [hq] at this; cases this
        | some c => rfl
      | true =>
        cases hq : A.ch x with
        | none => rfl
        | some c =>
          have h2 : G.dn x = false := (hc.1 (by rw [hq]; rfl)).2
          rw [hd] at h2
          cases h2
    · rw [decide_eq_true (by omega : x < 0 ∨ (G.n : Int) ≤ x)]
      by_cases h0 : 0 ≤ x
      · rw [decide_eq_false (by omega : ¬ x < (G.n : Int))]
        simp
      · rw [decide_eq_false h0]
        simp
  rw [e] at this
  exact this
end
end Go.Proofs.Ythmbhcmicebcpaa
