/-
  The document's example: the bytes of entry 1, '.'.
-/
import Derived.Test.YtpdekpdlmfnndaaPack
namespace Go.Proofs.Ytpdekpdlmfnndaa
open Go Go.Proofs Go.RowKit Go.Shelf

theorem num_any (w : World) (x : Int) : Calls Try.prog 10 #[.int .i64 x] w fun e w' => e = .returned (.int .i64 x) ∧ w' = w := by
  go_enter Try.func10, Try.ntmps10
  go_wp2
  go_ret
  exact ⟨rfl, rfl⟩

theorem RAt.cell {W : World} {g : Nat} {xs : List Int} (h : RAt W g xs) (i : Nat) (hi : i < xs.length) : W.cell? ⟨g, i, none⟩ = some (.int .u8 (xs.getD i 0)) ∧ W.frozen? ⟨g, i, none⟩ = false := by
  refine ⟨?_, blk_free h i⟩
  rw [blk_cell h]
  simpa using By_get xs i hi

def dotS : ByteArray := ⟨#[46]⟩
theorem dot_is : isB 1 (nm dotS) = true := by decide +kernel
theorem dot_len : (entL 1 (nm dotS)).length = 32 := by decide +kernel
theorem dot_at : (entL 1 (nm dotS)).getD 0 0 = 1 ∧ (entL 1 (nm dotS)).getD 4 0 = 1 ∧ (entL 1 (nm dotS)).getD 5 0 = 46 ∧ (entL 1 (nm dotS)).getD 6 0 = 0 := by decide +kernel

set_option maxHeartbeats 1000000 in
theorem alive_any (w : World) : Calls Try.prog 8 #[] w fun e w' => e = .returned (.bool true) ∧ Below w.heap.size w w' := by
  have HC : Hid (Calls Try.prog 12 #[entV 1 dotS] w fun e w' => ∃ g, e = .returned (.tuple #[.slice (some ⟨g, 0, none⟩) 32 32, .int .i64 0]) ∧ (w'.cell? ⟨g, 0, none⟩ = some (.int .u8 1) ∧ w'.cell? ⟨g, 4, none⟩ = some (.int .u8 1) ∧ w'.cell? ⟨g, 5, none⟩ = some (.int .u8 46) ∧ w'.cell? ⟨g, 6, none⟩ = some (.int .u8 0)) ∧ Below w.heap.size w w') := Hid.mk (by
    refine (pack_yes w 1 dotS dot_is).mono ?_
    rintro e w' ⟨g, rfl, hr, -, hB⟩
    have h0 := (hr.cell 0 (by rw [dot_len]; omega)).1
    have h4 := (hr.cell 4 (by rw [dot_len]; omega)).1
    have h5 := (hr.cell 5 (by rw [dot_len]; omega)).1
    have h6 := (hr.cell 6 (by rw [dot_len]; omega)).1
    rw [dot_at.1] at h0
    rw [dot_at.2.1] at h4
    rw [dot_at.2.2.1] at h5
    rw [dot_at.2.2.2] at h6
    exact ⟨g, rfl, ⟨h0, h4, h5, h6⟩, hB⟩)
  go_enter Try.func8, Try.ntmps8
  go_wp2_with (first
    | (refine wpL_buildtwo _ _ rfl rfl 1 dotS rfl rfl ?_)
    | (go_at_call 12; refine HC.out.mono ?_; rintro e W2 ⟨g, rfl, ⟨h0, h4, h5, h6⟩, hB⟩; have HB := Hid.mk hB; clear hB)
    | (go_at_call 10; refine (num_any _ _).mono ?_; rintro e w3 ⟨rfl, hw⟩; subst w3))
  go_ret
  exact ⟨rfl, HB.out⟩
end Go.Proofs.Ytpdekpdlmfnndaa
