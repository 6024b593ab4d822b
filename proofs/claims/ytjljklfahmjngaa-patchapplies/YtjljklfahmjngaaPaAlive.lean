/-
  The document's example: alive.
-/
import Derived.Test.YtjljklfahmjngaaPaDiff
namespace Go.Proofs.Ytjljklfahmjngaa
open Go Go.Proofs Go.RowKit Go.Shelf
attribute [local go_sem] Oper.semAt_some
theorem owns_cellsP {W : World} {base : Nat} {v : Value} {n : Nat} {L : List Pt} (h : W.ownsRow base 31 3 v n (Py L)) (hn : 0 < n) : ∃ g cap, v = .slice (some ⟨g, 0, none⟩) n cap ∧ base ≤ g ∧ g < W.heap.size ∧ ∀ j, j < n * 3 → W.cell? ⟨g, j, none⟩ = (Py L)[j]? := by
  rcases h.2 with ⟨rfl, h0⟩ | ⟨g, cap, cur, rfl, hg, hh, hnc, hm, hsz, ht⟩
  · omega
  · refine ⟨g, cap, rfl, hg, lt_of_block hh, fun j hj => ?_⟩
    rw [blk_cell hh, ← Array.getElem?_toList, ← ht, List.getElem?_take, if_pos hj]
theorem ex_runs : runsN 4 (unB [1, 2, 3, 4] [1, 5, 6, 4]) 0 = [(1, 3)] := by
  rw [runs_no (by decide) (by decide), runs_yes (by decide) (by decide), endN_step (by decide) (by decide), endN_stop (by decide), runs_end (by decide)]
theorem bat4 (W : World) (a b c d : Int) : BAt (W.alloc (.cells #[.int .u8 a, .int .u8 b, .int .u8 c, .int .u8 d] 5)) (some ⟨W.heap.size, 0, none⟩) 4 [a, b, c, d] := by
  have hb := blk_new W (.cells #[.int .u8 a, .int .u8 b, .int .u8 c, .int .u8 d] 5)
  refine ⟨rfl, fun _ => ⟨_, rfl, lt_of_block hb, fun i hi => ?_⟩⟩
  rw [add_at, blk_cell hb]
  match i, hi with
  | 0, _ => rfl
  | 1, _ => rfl
  | 2, _ => rfl
  | 3, _ => rfl
set_option maxRecDepth 100000 in
set_option maxHeartbeats 4000000 in
theorem alive_any (w : World) : Calls Try.prog 9 #[] w fun e w' => e = .returned (.bool true) ∧ Below w.heap.size w w' := by
  obtain ⟨w1, hw1⟩ : ∃ w1, w1 = w.alloc (.cells #[.int .u8 1, .int .u8 2, .int .u8 3, .int .u8 4] 5) := ⟨_, rfl⟩
  obtain ⟨w2, hw2⟩ : ∃ w2, w2 = w1.alloc (.cells #[.int .u8 1, .int .u8 5, .int .u8 6, .int .u8 4] 5) := ⟨_, rfl⟩
  have hs1 : w1.heap.size = w.heap.size + 1 := by rw [hw1]; simp
  have hB1 : Below w1.heap.size w1 w2 := by rw [hw2]; exact (Below.refl _ w1).alloc (Nat.le_refl _) _
  have hB : Below w.heap.size w w2 := by
    refine Below.trans ?_ (hB1.mono (by omega))
    rw [hw1]
    exact (Below.refl _ w).alloc (Nat.le_refl _) _
  have HW2 : Hid (w2 = (w.alloc (.cells #[.int .u8 1, .int .u8 2, .int .u8 3, .int .u8 4] 5)).alloc (.cells #[.int .u8 1, .int .u8 5, .int .u8 6, .int .u8 4] 5)) := Hid.mk (by rw [hw2, hw1])
  have HD : Hid (Calls Try.prog 17 #[.slice (some ⟨w.heap.size, 0, none⟩) 4 4, .slice (some ⟨w.heap.size + 1, 0, none⟩) 4 4] w2 fun e w' => ∃ g cap pg pc, e = .returned (.slice (some ⟨g, 0, none⟩) 1 cap) ∧ w'.cell? ⟨g, 1, none⟩ = some (.int .i64 1) ∧ w'.cell? ⟨g, 2, none⟩ = some (.slice (some ⟨pg, 0, none⟩) 2 pc) ∧ (convert 22 9 (.slice (some ⟨pg, 0, none⟩) 2 pc)).run Try.prog w' = .ok (.string ⟨#[5, 6]⟩) w' ∧ Hid (Below w.heap.size w w')) := Hid.mk (by
    have b1 : BAt w2 (some ⟨w.heap.size, 0, none⟩) 4 [1, 2, 3, 4] := by
      have := bat4 w 1 2 3 4
      rw [← hw1] at this
      exact this.below hB1
    have b2 : BAt w2 (some ⟨w.heap.size + 1, 0, none⟩) 4 [1, 5, 6, 4] := by
      have := bat4 w1 1 5 6 4
      rw [← hw2, hs1] at this
      exact this
    refine (diff_yes w2 _ _ 4 4 4 _ _ b1 b2 (by omega) (by omega)).mono ?_
    rintro e w' ⟨v, L, rfl, hown, hps, hsee, hB'⟩
    rw [ex_runs] at hsee
    have hsee : L.map Pt.see = [((0 : Int), (1 : Int), [5, 6])] := hsee
    have hl : L.length = 1 := by have := congrArg List.length hsee; simpa using this
    obtain ⟨p, rfl⟩ := List.length_eq_one_iff.1 hl
    · clear hl
      have e0 : p.see = ((0 : Int), (1 : Int), [5, 6]) := by simpa using hsee
      have e1 : p.at' = 1 := congrArg (fun x => x.2.1) e0
      have e2 : p.xs = [5, 6] := congrArg (fun x => x.2.2) e0
      obtain ⟨g, cap, rfl, hg, hlt, hc⟩ := owns_cellsP hown (by simp)
      have hp := hps p (by simp)
      rw [e2] at hp
      have hpn : p.n = 2 := by have := hp.1; simp [By] at this; omega
      rw [hpn] at hp
      obtain ⟨ao, c, hv, hat, hno, hnn⟩ := owns_BAt hp
      obtain ⟨a, ha⟩ : ∃ a, ao = some a := by
        cases ao with
        | none => exact absurd rfl (hnn (by omega))
        | some a => exact ⟨a, rfl⟩
      subst ha
      obtain ⟨-, -, z1, z2⟩ := hno a rfl
      obtain ⟨pg, po, ps⟩ := a
      dsimp only at z1 z2
      subst z1 z2
      refine ⟨g, cap, pg, c, rfl, ?_, ?_, ?_, Hid.mk (hB.trans (hB'.mono hB.size))⟩
      · rw [hc 1 (by simp)]
        show some (Value.int .i64 p.at') = _
        rw [e1]
      · rw [hc 2 (by simp)]
        show some p.val = _
        rw [hv]
      · rw [conv_bytes _ _ _ _ _ hat]
        rfl)
  clear hw1 hw2 hs1 hB1 hB
  go_enter Try.func9, Try.ntmps9
  go_wp2_with (go_at_call 17; rw [← HW2.out]; refine HD.out.mono ?_; rintro e w3 ⟨g, cap, pg, pc, rfl, c1, c2, cv, HB3⟩; clear HD HW2)
  go_ret
  exact ⟨rfl, HB3.out⟩
end Go.Proofs.Ytjljklfahmjngaa
