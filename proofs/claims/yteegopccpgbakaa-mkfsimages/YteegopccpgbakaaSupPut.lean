/-
  Numbers as bytes: width, sum and put of the program.
-/
import Derived.Test.YteegopccpgbakaaSupCalls
namespace Go.Proofs.Yteegopccpgbakaa
open Go Go.Proofs Go.RowKit Go.Shelf
namespace Sup
/-- sum: the sum of a row. -/
def sumL : List Int → Int
  | [] => 0
  | x :: r => x + sumL r
theorem sumL_append (a b : List Int) : sumL (a ++ b) = sumL a + sumL b := by
  induction a with
  | nil => simp [sumL]
  | cons x r ih => simp [sumL, ih]; omega
theorem sumL_bound (xs : List Int) (h : ∀ x ∈ xs, 0 ≤ x ∧ x ≤ 255) : 0 ≤ sumL xs ∧ sumL xs ≤ 255 * xs.length := by
  induction xs with
  | nil => simp [sumL]
  | cons x r ih =>
    have h1 := h x (by simp)
    have h2 := ih (fun y hy => h y (by simp [hy]))
    simp [sumL]
    omega
theorem sumL_take (xs : List Int) (k : Nat) (h : k < xs.length) : sumL (xs.take (k + 1)) = sumL (xs.take k) + xs.getD k 0 := by
  rw [take_snoc xs k h, sumL_append]
  simp [sumL]
set_option maxHeartbeats 400000 in
theorem sum_any (w : World) (a : Addr) (n c : Nat) (xs : List Int) (h : BAt w (some a) n xs) (hx : ∀ x ∈ xs, 0 ≤ x ∧ x ≤ 255) (hn : n ≤ 1024) :
    Calls Try.prog 41 #[.slice (some a) n c] w fun e w' => e = .returned (.int .i64 (sumL xs)) ∧ w' = w := by
  have HH := Hid.mk h
  have HX := Hid.mk hx
  have hl := h.1
  have HL := Hid.mk hl
  clear h hx hl
  go_enter Try.func41, Try.ntmps41
  go_wp2
  go_loop [3, 8] (fun s i => ∃ k : Nat, k ≤ n ∧ i = .int .i64 k ∧ s = .int .i64 (sumL (xs.take k))) (fun _ i => n - (intOf i).toNat)
  case atStart => exact ⟨0, by omega, rfl, rfl⟩
  case round =>
    obtain ⟨k, hk, rfl, rfl⟩ := hrel
    by_cases hlt : k < n
    · obtain ⟨a', e, hc⟩ := HH.out.at k hlt
      cases e
      have hs := sumL_take xs k (by rw [HL.out]; exact hlt)
      have hb := sumL_bound (xs.take k) (fun x hx => HX.out x (List.mem_of_mem_take hx))
      have hbb := getD_bound xs HX.out k
      have hlen : (xs.take k).length ≤ 1024 := by have := HL.out; simp; omega
      generalize xs.getD k 0 = x at *
      generalize sumL (xs.take k) = y at *
      have hwr : IntKind.i64.wrap (y + x) = y + x := by rw [IntKind.wrap_i64]; omega
      have HS := Hid.mk hs
      clear hlen hs
      go_wp2
      go_round
      case rel => exact ⟨k + 1, by omega, by go_num, by rw [HS.out]⟩
      case measure => simp [intOf]; omega
    · have hge : (n : Int) ≤ k := by omega
      go_wp2
      go_ret
      refine ⟨?_, rfl⟩
      rw [List.take_of_length_le (by rw [HL.out]; omega)]
      rfl
/-- A row of ints that was built just now. -/
theorem lat_newi (W : World) (xs : List Int) : LAt (W.alloc (.cells (Iy xs).toArray 3)) (some ⟨W.heap.size, 0, none⟩) xs.length xs := by
  refine ⟨rfl, fun _ => ⟨_, rfl, by simp, fun i hi => ?_⟩⟩
  rw [add_at, blk_cell (blk_new W _), Nat.zero_add]
  simpa using Iy_get xs i hi
end Sup
end Go.Proofs.Yteegopccpgbakaa
