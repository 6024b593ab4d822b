/-
  both: the parts of a call's two paths.
-/
import Derived.Test.YtehaoeclnmelhacGreatTrLose
namespace Go.Proofs.YtehaoeclnmelhacGreat
open Go Go.Proofs Go.RowKit Go.Shelf Go.Sort

theorem call_box (w : World) (k : Int) (s s2 : ByteArray) (off m : Int) (v : Value) (W : World) (hB : Below (w.heap.size + 1) (w.alloc (.cells #[.int .i64 k, .string s, .string s2, .int .i64 off, .int .i64 m, v] 34)) W) : W.cell? ⟨w.heap.size, 1, none⟩ = some (.string s) ∧ W.cell? ⟨w.heap.size, 2, none⟩ = some (.string s2) ∧ Below w.heap.size w W := by
  have e : W.heap[w.heap.size]? = some (.cells #[.int .i64 k, .string s, .string s2, .int .i64 off, .int .i64 m, v] 34 (0, 0)) := (hB.block w.heap.size (by omega)).trans (blk_new w _)
  exact ⟨by rw [blk_cell e]; rfl, by rw [blk_cell e]; rfl, ((Below.refl _ w).alloc (Nat.le_refl _) _).trans (hB.mono (by omega))⟩
set_option maxRecDepth 100000 in
set_option maxHeartbeats 4000000 in
theorem both_no (w : World) (k : Int) (s s2 : ByteArray) (off m : Int) (dp : Option Addr) (dl dc : Nat) (hs : s.size ≤ 16777216) (hs2 : s2.size ≤ 16777216) (h : splitL (ofS s) = none ∨ splitL (ofS s2) = none) :
    Calls Tryz.prog 35 #[callV k s s2 off m (.slice dp dl dc)] w fun e w' => e = .returned (.tuple #[.slice none 0 0, .slice none 0 0, .int .i64 15]) ∧ Below w.heap.size w w' := by
  have HCB := Hid.mk (call_box w k s s2 off m (.slice dp dl dc))
  unfold callV
  cases h1 : splitL (ofS s) with
  | none =>
    have H1 := Hid.mk (fun W => split_no W s hs h1)
    clear h h1 hs hs2
    go_enter Tryz.func35, Tryz.ntmps35
    go_wp2_with (go_at_call 54; refine (H1.out _).mono ?_; rintro e W1 ⟨ao, n, c, rfl, hB⟩; have HB := Hid.mk hB; clear hB)
    refine bodyPost_ret (results_tmp3 rfl _ _ _) rfl ⟨rfl, ?_⟩
    have := HB.out
    simp only [World.size_alloc] at this
    exact (HCB.out _ this).2.2
  | some L =>
    have H1 := Hid.mk (fun W => split_yes W s hs h1)
    have h2 : splitL (ofS s2) = none := by rcases h with h | h; rw [h1] at h; cases h; exact h
    have H2 := Hid.mk (fun W => split_no W s2 hs2 h2)
    clear h h1 h2 hs hs2
    go_enter Tryz.func35, Tryz.ntmps35
    have tok : True := trivial
    go_wp2_with (first
      | (go_at_call 54; have _t := tok; refine (H1.out _).mono ?_; rintro e W1 ⟨ao, c, rfl, -, -, -, hB⟩; simp only [World.size_alloc] at hB; obtain ⟨c1, c2, c3⟩ := HCB.out _ hB; have HB := Hid.mk hB; have HC3 := Hid.mk c3; clear hB tok c3 _t)
      | (go_at_call 54; refine (H2.out _).mono ?_; rintro e W2 ⟨ao2, n2, c2', rfl, hB⟩; have HB2 := Hid.mk hB; clear hB))
    refine bodyPost_ret (results_tmp3 rfl _ _ _) rfl ⟨rfl, ?_⟩
    exact HC3.out.trans (HB2.out.mono HC3.out.size)
set_option maxRecDepth 100000 in
set_option maxHeartbeats 4000000 in
theorem both_yes (w : World) (k : Int) (s s2 : ByteArray) (off m : Int) (dp : Option Addr) (dl dc : Nat) (hs : s.size ≤ 16777216) (hs2 : s2.size ≤ 16777216) {L M : List (List UInt8)} (h1 : splitL (ofS s) = some L) (h2 : splitL (ofS s2) = some M) :
    Calls Tryz.prog 35 #[callV k s s2 off m (.slice dp dl dc)] w fun e w' => ∃ ao c bo d, e = .returned (.tuple #[.slice ao L.length c, .slice bo M.length d, .int .i64 0]) ∧ SAt w' ao L.length L ∧ SAt w' bo M.length M ∧ L.length ≤ c ∧ c ≤ 9223372036854775807 ∧ M.length ≤ d ∧ d ≤ 9223372036854775807 ∧ Below w.heap.size w w' := by
  have HCB := Hid.mk (call_box w k s s2 off m (.slice dp dl dc))
  unfold callV
  have H1 := Hid.mk (fun W => split_yes W s hs h1)
  have H2 := Hid.mk (fun W => split_yes W s2 hs2 h2)
  clear h1 h2 hs hs2
  go_enter Tryz.func35, Tryz.ntmps35
  have tok : True := trivial
  go_wp2_with (first
    | (go_at_call 54; have _t := tok; refine (H1.out _).mono ?_; rintro e W1 ⟨ao, c, rfl, hs1, hc1, hc2, hB⟩; simp only [World.size_alloc] at hB; obtain ⟨c1, c2, c3⟩ := HCB.out _ hB; have HS1 := Hid.mk hs1; have HC1 := Hid.mk hc1; have HC2 := Hid.mk hc2; have HC3 := Hid.mk c3; clear hB tok c3 _t hs1 hc1 hc2)
    | (go_at_call 54; refine (H2.out _).mono ?_; rintro e W2 ⟨bo, d, rfl, hs2, hd1, hd2, hB⟩; have HB2 := Hid.mk hB; have HS2 := Hid.mk hs2; have HD1 := Hid.mk hd1; have HD2 := Hid.mk hd2; clear hB hs2 hd1 hd2))
  refine bodyPost_ret (results_tmp3 rfl _ _ _) rfl ?_
  exact ⟨ao, c, bo, d, rfl, HS1.out.below HB2.out, HS2.out, HC1.out, HC2.out, HD1.out, HD2.out, HC3.out.trans (HB2.out.mono HC3.out.size)⟩
end Go.Proofs.YtehaoeclnmelhacGreat
