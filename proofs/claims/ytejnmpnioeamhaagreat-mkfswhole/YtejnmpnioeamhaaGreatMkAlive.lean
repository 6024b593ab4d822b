/-
  The document's example.
-/
import Derived.Test.YtejnmpnioeamhaaGreatMkImage
namespace Go.Proofs.YtejnmpnioeamhaaGreat
open Go Go.Proofs Go.RowKit Go.Shelf
namespace Mk
open Sup (superL headL)
open Din (inoL)
open Ent (blockL)
set_option maxRecDepth 100000 in
theorem num_any (w : World) (x : Int) : Calls Tryz.prog 10 #[.int .i64 x] w fun e w' => e = .returned (.int .i64 x) ∧ w' = w := by
  go_enter Tryz.func10, Tryz.ntmps10
  go_wp2
  go_ret
  exact ⟨rfl, rfl⟩
theorem imgL_length {G I D : Int} (hg : good G I D = true) : (imgL G I D).length = totN G I D * 1024 := by
  obtain ⟨-, t2, -, t4⟩ := tot_is hg
  have h1 := refL_full hg
  have h2 : (splice (refL G I D G.toNat) 2048 (inoL (rootL I))).length = totN G I D * 1024 := by
    rw [splice_length _ _ _ (by rw [h1, Din.inoL_length _ rfl]; omega), h1]
  unfold imgL
  rw [splice_length _ _ _ (by rw [h2, Ent.blockL_length ok_dots]; omega), h2]
set_option maxRecDepth 100000 in
theorem alive_any (w : World) : Calls Tryz.prog 4 #[] w fun e w' => e = .returned (.bool true) ∧ Below w.heap.size w w' := by
  have HI : Hid (∀ W : World, Calls Tryz.prog 6 #[geo 1 1 8] W fun e w' => ∃ g, e = .returned (.tuple #[.slice (some ⟨g, 0, none⟩) 11264 11264, .int .i64 0]) ∧ Below W.heap.size W w') := Hid.mk (fun W => by
    refine (image_yes W 1 1 8 (by decide)).mono ?_
    rintro e w' ⟨g, rfl, -, -, hB⟩
    exact ⟨g, rfl, hB⟩)
  go_enter Tryz.func4, Tryz.ntmps4
  go_wp2_with (first
    | (go_at_call 6; refine (HI.out _).mono ?_; rintro e w1 ⟨g, rfl, hB⟩; have HB := Hid.mk hB; clear hB)
    | (go_at_call 10; refine (num_any _ _).mono ?_; rintro e w3 ⟨rfl, hw⟩; subst w3))
  go_ret
  exact ⟨rfl, HB.out⟩
end Mk
end Go.Proofs.YtejnmpnioeamhaaGreat
