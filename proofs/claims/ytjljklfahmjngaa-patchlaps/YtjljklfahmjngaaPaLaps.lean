/-
  The statement PatchLaps.
-/
import Derived.Test.YtjljklfahmjngaaPaAlive
import Derived.Test.YtjljklfahmjngaaPaRLap
namespace Go.Proofs.Ytjljklfahmjngaa
open Go Go.Proofs Go.RowKit Go.Shelf
attribute [local go_sem] Oper.semAt_some
theorem bool_eqB (b c : Bool) (h : b = c) : (b == c) = true := by subst h; simp
set_option maxRecDepth 100000 in
set_option maxHeartbeats 4000000 in
theorem laps_any (w : World) (i j a b : Int) (ao bo : Option Addr) (n m c d : Nat) (ha : I64 a) (hb : I64 b) :
    Calls Try.prog 4 #[paV i a (.slice ao n c), paV j b (.slice bo m d)] w fun e w' => e = .returned (.bool true) ∧ Below w.heap.size w w' := by
  obtain ⟨w1, hw1⟩ : ∃ w1, w1 = (w.alloc (.cells #[.int .i64 i, .int .i64 a, .slice ao n c] 31)).alloc (.cells #[.int .i64 j, .int .i64 b, .slice bo m d] 31) := ⟨_, rfl⟩
  have HW1 := Hid.mk hw1
  have HB1 : Hid (Below w.heap.size w w1) := Hid.mk (by rw [hw1]; exact two_below w _ _ 0)
  have HC : Hid (∀ W, Below w1.heap.size w1 W → (W.cell? ⟨w.heap.size, 0, none⟩ = some (.int .i64 i) ∧ W.cell? ⟨w.heap.size, 1, none⟩ = some (.int .i64 a) ∧ W.cell? ⟨w.heap.size, 2, none⟩ = some (.slice ao n c)) ∧ (W.cell? ⟨w.heap.size + 1, 0, none⟩ = some (.int .i64 j) ∧ W.cell? ⟨w.heap.size + 1, 1, none⟩ = some (.int .i64 b) ∧ W.cell? ⟨w.heap.size + 1, 2, none⟩ = some (.slice bo m d))) := Hid.mk (fun W hB => by
    have e : ∀ q o, q < w1.heap.size → W.cell? ⟨q, o, none⟩ = w1.cell? ⟨q, o, none⟩ := fun q o h => hB.cell (p := ⟨q, o, none⟩) h
    have hs : w1.heap.size = w.heap.size + 2 := by rw [hw1]; simp
    rw [e _ _ (by omega), e _ _ (by omega), e _ _ (by omega), e _ _ (by omega), e _ _ (by omega), e _ _ (by omega), hw1]
    simp)
  have HAL := Hid.mk (alive_any w1)
  clear hw1
  by_cases hn : n ≤ 3000
  · by_cases hm : m ≤ 3000
    · have HL1 := Hid.mk (fun W => lap_any W i j a b ao bo n m c d ha hb (by omega) (by omega))
      have HL2 := Hid.mk (fun W => rlap_any W i j a b ao bo n m c d ha hb (by omega) (by omega))
      have HL3 : Hid (∀ W, Calls Try.prog 15 #[paV j b (.slice bo m d), paV i a (.slice ao n c)] W fun e w' => e = .returned (.bool (lapB a n b m)) ∧ Below W.heap.size W w') := Hid.mk (fun W => by
        have := lap_any W j i b a bo ao m n d c hb ha (by omega) (by omega)
        rw [lapB_comm] at this
        exact this)
      have hn' : ¬ (3000 : Int) < (n : Int) := by omega
      have hm' : ¬ (3000 : Int) < (m : Int) := by omega
      unfold paV at *
      generalize lapB a n b m = x at *
      have hx : (x == x) = true := by simp
      clear hn hm
      go_enter Try.func4, Try.ntmps4
      go_wp2_with (first
        | (go_at_call 9; rw [← HW1.out]; refine HAL.out.mono ?_; rintro e w2 ⟨rfl, hb2⟩; have HB2 := Hid.mk hb2; obtain ⟨⟨c0, c1, c2⟩, c3, c4, c5⟩ := HC.out _ hb2; clear hb2 HAL HW1)
        | (go_at_call 15; refine (HL1.out _).mono ?_; rintro e w3 ⟨rfl, hb3⟩; have HB3 : Hid (Below w1.heap.size w1 w3) := Hid.mk (HB2.out.trans (hb3.mono HB2.out.size)); clear hb3 c0 c1 c2 c3 c4 c5 HB2 HL1; obtain ⟨⟨c0, c1, c2⟩, c3, c4, c5⟩ := HC.out _ HB3.out)
        | (go_at_call 16; refine (HL2.out _).mono ?_; rintro e w4 ⟨rfl, hb4⟩; have HB4 : Hid (Below w1.heap.size w1 w4) := Hid.mk (HB3.out.trans (hb4.mono HB3.out.size)); clear hb4 c0 c1 c2 c3 c4 c5 HB3 HL2; obtain ⟨⟨c0, c1, c2⟩, c3, c4, c5⟩ := HC.out _ HB4.out)
        | (go_at_call 15; refine (HL3.out _).mono ?_; rintro e w5 ⟨rfl, hb5⟩; have HB5 : Hid (Below w1.heap.size w1 w5) := Hid.mk (HB4.out.trans (hb5.mono HB4.out.size)); clear hb5 c0 c1 c2 c3 c4 c5 HB4 HL3))
      go_ret
      exact ⟨rfl, HB1.out.trans (HB5.out.mono HB1.out.size)⟩
    · have hn' : ¬ (3000 : Int) < (n : Int) := by omega
      have hm' : (3000 : Int) < (m : Int) := by omega
      unfold paV at *
      clear hn hm
      go_enter Try.func4, Try.ntmps4
      go_wp2_with (first
        | (go_at_call 9; rw [← HW1.out]; refine HAL.out.mono ?_; rintro e w2 ⟨rfl, hb2⟩; have HB2 := Hid.mk hb2; obtain ⟨⟨c0, c1, c2⟩, c3, c4, c5⟩ := HC.out _ hb2; clear hb2 HAL HW1))
      go_ret
      exact ⟨rfl, HB1.out.trans (HB2.out.mono HB1.out.size)⟩
  · have hn' : (3000 : Int) < (n : Int) := by omega
    unfold paV at *
    clear hn
    go_enter Try.func4, Try.ntmps4
    go_wp2_with (first
      | (go_at_call 9; rw [← HW1.out]; refine HAL.out.mono ?_; rintro e w2 ⟨rfl, hb2⟩; have HB2 := Hid.mk hb2; obtain ⟨⟨c0, c1, c2⟩, c3, c4, c5⟩ := HC.out _ hb2; clear hb2 HAL HW1))
    go_ret
    exact ⟨rfl, HB1.out.trans (HB2.out.mono HB1.out.size)⟩
end Go.Proofs.Ytjljklfahmjngaa
