/-
  WalkSame: its walk, by any contract of alive.
-/
import Derived.Test.YtbahbhaoimabdaaWkNode
import Derived.Test.YtbahbhaoimabdaaWkBig
namespace Go.Proofs.Ytbahbhaoimabdaa
open Go Go.Proofs Go.RowKit Go.Shelf

set_option maxRecDepth 100000 in
set_option maxHeartbeats 4000000 in
theorem walksame_law (HAL : Hid (∀ W : World, Calls Try.prog 9 #[] W fun e w' => e = .returned (.bool true) ∧ Below W.heap.size W w')) (w : World) (ao : Option Addr) (n cc : Nat) (bo : Option Addr) (m cd : Nat) (N M : Nat → NoV) (hN : NoAt w ao n N) (hM : NoAt w bo m M) (hn : n ≤ 9223372036854775807) (hm : m ≤ 9223372036854775807) : Calls Try.prog 5 #[.slice ao n cc, .slice bo m cd] w fun e w' => e = .returned (.bool true) ∧ Below w.heap.size w w' := by
  obtain ⟨r, hr⟩ : ∃ r, r = sameL n N m M := ⟨_, rfl⟩
  obtain ⟨b1, hb1⟩ : ∃ b1, b1 = bigB n N := ⟨_, rfl⟩
  obtain ⟨b2, hb2⟩ : ∃ b2, b2 = bigB m M := ⟨_, rfl⟩
  have HB1 : Hid (∀ W, Below w.heap.size w W → Calls Try.prog 10 #[.slice ao n cc] W fun e w' => e = .returned (.bool b1) ∧ Below W.heap.size W w') := Hid.mk (fun W hB => by rw [hb1]; exact big_any W ao n cc N (hN.blw hB) hn)
  have HB2 : Hid (∀ W, Below w.heap.size w W → Calls Try.prog 10 #[.slice bo m cd] W fun e w' => e = .returned (.bool b2) ∧ Below W.heap.size W w') := Hid.mk (fun W hB => by rw [hb2]; exact big_any W bo m cd M (hM.blw hB) hm)
  have HWS : Hid (∀ W, Below w.heap.size w W → Calls Try.prog 18 #[.slice ao n cc, .slice bo m cd] W fun e w' => e = .returned (.bool r) ∧ Below W.heap.size W w') := Hid.mk (fun W hB => by rw [hr]; exact wsame_any W ao n cc bo m cd N M (hN.blw hB) (hM.blw hB) hn)
  have HWT : Hid (∀ W, Below w.heap.size w W → Calls Try.prog 18 #[.slice bo m cd, .slice ao n cc] W fun e w' => e = .returned (.bool r) ∧ Below W.heap.size W w') := Hid.mk (fun W hB => by rw [hr, sameL_comm]; exact wsame_any W bo m cd ao n cc M N (hM.blw hB) (hN.blw hB) hm)
  have HWA : Hid (∀ W, Below w.heap.size w W → Calls Try.prog 18 #[.slice ao n cc, .slice ao n cc] W fun e w' => e = .returned (.bool true) ∧ Below W.heap.size W w') := Hid.mk (fun W hB => by rw [← sameL_refl n N]; exact wsame_any W ao n cc ao n cc N N (hN.blw hB) (hN.blw hB) hn)
  have HRS : Hid (∀ W, Below w.heap.size w W → Calls Try.prog 19 #[.slice ao n cc, .slice bo m cd] W fun e w' => e = .returned (.bool r) ∧ Below W.heap.size W w') := Hid.mk (fun W hB => by rw [hr]; exact rsame_any W ao n cc bo m cd N M (hN.blw hB) (hM.blw hB) hn)
  clear hN hM hn hm hr hb1 hb2
  cases b1 with
  | true =>
    go_enter Try.func5, Try.ntmps5
    go_wp2_with (first | (go_at_call 9; with_reducible refine (HAL.out _).mono ?_; rintro e W ⟨rfl, hB⟩; have BB := Hid.mk hB; clear hB HAL) | (go_at_call 10; with_reducible refine (HB1.out _ BB.out).mono ?_; rintro e W ⟨rfl, hB⟩; replace BB := Hid.mk (BB.out.trans (hB.mono BB.out.size)); clear hB HB1))
    go_ret
    exact ⟨rfl, BB.out⟩
  | false =>
    cases b2 with
    | true =>
      go_enter Try.func5, Try.ntmps5
      go_wp2_with (first | (go_at_call 9; with_reducible refine (HAL.out _).mono ?_; rintro e W ⟨rfl, hB⟩; have BB := Hid.mk hB; clear hB HAL) | (go_at_call 10; with_reducible refine (HB1.out _ BB.out).mono ?_; rintro e W ⟨rfl, hB⟩; replace BB := Hid.mk (BB.out.trans (hB.mono BB.out.size)); clear hB HB1) | (go_at_call 10; with_reducible refine (HB2.out _ BB.out).mono ?_; rintro e W ⟨rfl, hB⟩; replace BB := Hid.mk (BB.out.trans (hB.mono BB.out.size)); clear hB HB2))
      go_ret
      exact ⟨rfl, BB.out⟩
    | false =>
      cases r <;>
      · go_enter Try.func5, Try.ntmps5
        go_wp2_with (first | (go_at_call 9; with_reducible refine (HAL.out _).mono ?_; rintro e W ⟨rfl, hB⟩; have BB := Hid.mk hB; clear hB HAL) | (go_at_call 10; with_reducible refine (HB1.out _ BB.out).mono ?_; rintro e W ⟨rfl, hB⟩; replace BB := Hid.mk (BB.out.trans (hB.mono BB.out.size)); clear hB HB1) | (go_at_call 10; with_reducible refine (HB2.out _ BB.out).mono ?_; rintro e W ⟨rfl, hB⟩; replace BB := Hid.mk (BB.out.trans (hB.mono BB.out.size)); clear hB HB2) | (go_at_call 18; with_reducible refine (HWS.out _ BB.out).mono ?_; rintro e W ⟨rfl, hB⟩; replace BB := Hid.mk (BB.out.trans (hB.mono BB.out.size)); clear hB) | (go_at_call 18; with_reducible refine (HWT.out _ BB.out).mono ?_; rintro e W ⟨rfl, hB⟩; replace BB := Hid.mk (BB.out.trans (hB.mono BB.out.size)); clear hB) | (go_at_call 18; with_reducible refine (HWA.out _ BB.out).mono ?_; rintro e W ⟨rfl, hB⟩; replace BB := Hid.mk (BB.out.trans (hB.mono BB.out.size)); clear hB) | (go_at_call 19; with_reducible refine (HRS.out _ BB.out).mono ?_; rintro e W ⟨rfl, hB⟩; replace BB := Hid.mk (BB.out.trans (hB.mono BB.out.size)); clear hB))
        go_ret
        exact ⟨rfl, BB.out⟩
end Go.Proofs.Ytbahbhaoimabdaa
