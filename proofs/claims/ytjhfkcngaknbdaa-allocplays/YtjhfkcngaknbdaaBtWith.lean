/-
  What With does, and the document's own With, for every row and number.
-/
import Derived.Test.YtjhfkcngaknbdaaBtCalls
namespace Go.Proofs.Ytjhfkcngaknbdaa
open Go Go.Proofs Go.RowKit
namespace Bt
set_option maxRecDepth 100000 in
set_option maxHeartbeats 1000000 in
theorem with_yes (w : World) (a : Addr) (n c q : Nat) (on : Bool) (xs : List Int) (h : BAt w (some a) n xs) (hx : ∀ x ∈ xs, 0 ≤ x ∧ x ≤ 255) (hbig : n ≤ 140737488355328) (hq : q / 8 < n) :
    Calls Try.prog 56 #[.slice (some a) n c, .int .i64 q, .bool on] w fun e w' => ∃ v', e = .returned v' ∧ w'.ownsRow w.heap.size 5 1 v' n (By (xs.set (q / 8) (setB (xs.getD (q / 8) 0) q on))) ∧ Below w.heap.size w w' := by
  have hq2 : q < 9223372036854775808 := by omega
  have hq3 : (q : Int) / 8 < n := by omega
  have H1 : Hid (∀ w, Calls Try.prog 61 #[.slice (some a) n c, .int .i64 q] w fun e w' => e = .returned (.bool true) ∧ w' = w) := Hid.mk fun w => by
    have := has_any w (some a) n c q ⟨by omega, by omega⟩
    rw [hasI_nat, decide_eq_true hq] at this
    exact this
  have HC := Hid.mk (clone_all w (some a) n c xs h (by simp) hbig)
  have HX := Hid.mk hx
  clear h hx
  go_enter Try.func56, Try.ntmps56
  go_wp2_with (first
    | (go_at_call 35; refine HC.out.mono ?_; rintro e w1 ⟨v', rfl, hown, hB⟩; obtain ⟨g, cap, rfl, hg, -⟩ := owns_bytes hown (by rintro rfl; rcases hown.2 with h2 | ⟨_, _, _, h2, _⟩; omega; cases h2); obtain ⟨hc1, hc2, -⟩ := owns_cell hown (q / 8) hq)
    | (go_at_call 61; refine (H1.out _).mono ?_; rintro e w' ⟨rfl, rfl⟩))
  clear H1 HC
  obtain ⟨ga, hga⟩ : ∃ ga : Addr, ga = ⟨g, 0, none⟩ := ⟨_, rfl⟩
  have hadd : ga.add (q / 8) = ⟨g, q / 8, none⟩ := by rw [hga, add_at, Nat.zero_add]
  rw [← hadd] at hc1 hc2
  rw [← hga] at hown ⊢
  have HGA := Hid.mk hga
  have HADD := Hid.mk hadd
  clear hga hadd
  have HO := Hid.mk hown
  have HB := Hid.mk hB
  clear hown hB
  obtain ⟨x, hxe⟩ : ∃ x, x = xs.getD (q / 8) 0 := ⟨_, rfl⟩
  rw [← hxe] at hc1
  have HE := Hid.mk hxe
  clear hxe
  have hw8 : IntKind.i64.wrap ((q : Int) / 8) = (q : Int) / 8 := by rw [IntKind.wrap_i64]; omega
  have h08 : (0 : Int) ≤ (q : Int) / 8 := by omega
  have ht8 : ((q : Int) / 8).toNat = q / 8 := by omega
  have fin1 : ∀ W : World, W.heap = (w'.setCell (ga.add (q / 8)) (.int .u8 (bits BinOp.andNot IntKind.u8 x (maskN q)))).heap → Below w.heap.size w' W → W.ownsRow w.heap.size 5 1 (.slice (some ga) n cap) n (By (xs.set (q / 8) (setB (xs.getD (q / 8) 0) q false))) ∧ Below w.heap.size w W := by
    intro W hW hBW
    refine ⟨?_, HB.out.trans hBW⟩
    have h1 := HO.out
    have e1 := HGA.out
    have e2 := HADD.out
    have e3 := HE.out
    subst e1
    have h2 := owns_set h1 (q / 8) (bits BinOp.andNot IntKind.u8 x (maskN q))
    rw [← e2] at h2
    rw [← e3]
    exact owns_at h2 (fun k _ => by rw [hW])
  have fin2 : ∀ W : World, W.heap = ((w'.setCell (ga.add (q / 8)) (.int .u8 (bits BinOp.andNot IntKind.u8 x (maskN q)))).setCell (ga.add (q / 8)) (.int .u8 (bits BinOp.or IntKind.u8 (bits BinOp.andNot IntKind.u8 x (maskN q)) (maskN q)))).heap → Below w.heap.size w' W → W.ownsRow w.heap.size 5 1 (.slice (some ga) n cap) n (By (xs.set (q / 8) (setB (xs.getD (q / 8) 0) q true))) ∧ Below w.heap.size w W := by
    intro W hW hBW
    refine ⟨?_, HB.out.trans hBW⟩
    have h1 := HO.out
    have e1 := HGA.out
    have e2 := HADD.out
    have e3 := HE.out
    subst e1
    have h2 := owns_set (owns_set h1 (q / 8) (bits BinOp.andNot IntKind.u8 x (maskN q))) (q / 8) (bits BinOp.or IntKind.u8 (bits BinOp.andNot IntKind.u8 x (maskN q)) (maskN q))
    rw [← e2, List.set_set] at h2
    rw [← e3]
    exact owns_at h2 (fun k _ => by rw [hW])
  have hgb : w.heap.size ≤ (ga.add (q / 8)).block := by rw [HADD.out]; exact hg
  have F1 := Hid.mk fin1
  have F2 := Hid.mk fin2
  have HGB := Hid.mk hgb
  clear fin1 fin2 hgb
  cases on
  · go_region_with (go_at_call 62; refine (mask_any _ q hq2).mono ?_; rintro e w' ⟨rfl, rfl⟩)
    all_goals go_wp2
    all_goals go_ret
    all_goals exact ⟨_, rfl, F1.out _ rfl (((Below.refl _ w').setCell HGB.out _).drew)⟩
  · go_region_with (go_at_call 62; refine (mask_any _ q hq2).mono ?_; rintro e w' ⟨rfl, rfl⟩)
    all_goals go_wp2
    all_goals go_region_with (go_at_call 62; refine (mask_any _ q hq2).mono ?_; rintro e w' ⟨rfl, rfl⟩)
    all_goals go_wp2
    all_goals go_ret
    all_goals exact ⟨_, rfl, F2.out _ rfl (((Below.refl _ w').setCell HGB.out _).drew.setCell HGB.out _).drew⟩
set_option maxRecDepth 100000 in
set_option maxHeartbeats 1000000 in
theorem with_no (w : World) (ao : Option Addr) (n c : Nat) (i : Int) (hi : I64 i) (on : Bool) (xs : List Int) (h : BAt w ao n xs) (hnone : ao = none → n = 0 ∧ c = 0) (hbig : n ≤ 140737488355328) (hno : hasI n i = false) :
    Calls Try.prog 56 #[.slice ao n c, .int .i64 i, .bool on] w fun e w' => ∃ v', e = .returned v' ∧ w'.ownsRow w.heap.size 5 1 v' n (By xs) ∧ Below w.heap.size w w' := by
  have H1 : Hid (∀ w, Calls Try.prog 61 #[.slice ao n c, .int .i64 i] w fun e w' => e = .returned (.bool false) ∧ w' = w) := Hid.mk fun w => by
    have := has_any w ao n c i hi
    rw [hno] at this
    exact this
  have HC := Hid.mk (clone_all w ao n c xs h hnone hbig)
  clear h hnone hno hi
  go_enter Try.func56, Try.ntmps56
  go_wp2_with (first
    | (go_at_call 35; refine HC.out.mono ?_; rintro e w1 ⟨v', rfl, hown, hB⟩; have HO := Hid.mk hown; have HB := Hid.mk hB; clear hown hB)
    | (go_at_call 61; refine (H1.out _).mono ?_; rintro e w' ⟨rfl, rfl⟩))
  go_ret
  exact ⟨_, rfl, HO.out, HB.out⟩
set_option maxRecDepth 100000 in
theorem with_any (w : World) (ao : Option Addr) (n c : Nat) (i : Int) (hi : I64 i) (on : Bool) (xs : List Int) (h : BAt w ao n xs) (hx : ∀ x ∈ xs, 0 ≤ x ∧ x ≤ 255) (hnone : ao = none → n = 0 ∧ c = 0) (hbig : n ≤ 140737488355328) :
    Calls Try.prog 56 #[.slice ao n c, .int .i64 i, .bool on] w fun e w' => ∃ v', e = .returned v' ∧ w'.ownsRow w.heap.size 5 1 v' n (By (withI xs i on)) ∧ Below w.heap.size w w' := by
  cases hh : hasI n i with
  | false =>
    rw [show withI xs i on = xs from by unfold withI; rw [h.1, hh]; simp]
    exact with_no w ao n c i hi on xs h hnone hbig hh
  | true =>
    have hh' := hh
    simp [hasI] at hh'
    obtain ⟨hi1, hi2⟩ := hi
    obtain ⟨q, rfl⟩ : ∃ q : Nat, i = q := ⟨i.toNat, by omega⟩
    simp only [Int.toNat_natCast] at hh'
    obtain ⟨a, rfl, _⟩ := h.at (q / 8) hh'.2
    rw [show withI xs (q : Int) on = xs.set (q / 8) (setB (xs.getD (q / 8) 0) q on) from by unfold withI; rw [h.1, if_pos hh]; rfl]
    exact with_yes w a n c q on xs h hx hbig hh'.2
end Bt
end Go.Proofs.Ytjhfkcngaknbdaa
