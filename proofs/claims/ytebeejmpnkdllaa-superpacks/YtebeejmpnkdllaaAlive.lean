/-
  What a superblock's bytes are; the document's example.
-/
import Derived.Test.YtebeejmpnkdllaaReadRef
namespace Go.Proofs.Ytebeejmpnkdllaa
open Go Go.Proofs Go.RowKit Go.Shelf

theorem numL_leL (n : Int) (h0 : 0 ≤ n) (h1 : n < 4294967296) : numL (leL n 4) = n := by
  have e : leL n 4 = [n % 256, n / 256 % 256, n / 65536 % 256, n / 16777216 % 256] := by
    simp [leL, List.range_succ]
  rw [e]
  simp only [numL]
  omega
theorem super_parts (G I D : Int) : gOf (superL G I D) = numL (leL G 4) ∧ iOf (superL G I D) = numL (leL I 4) ∧ dOf (superL G I D) = numL (leL D 4) := by
  have e : superL G I D = lockL ++ (leL G 4 ++ (leL I 4 ++ (leL D 4 ++ (leL (sumL (hdrL G I D)) 4 ++ zeros 1000)))) := by simp [superL, hdrL]
  have l8 : lockL.length = 8 := rfl
  refine ⟨?_, ?_, ?_⟩
  · unfold gOf
    rw [e, List.drop_left' l8, List.take_left' (leL_length _ _)]
  · unfold iOf
    rw [e, ← List.append_assoc lockL, List.drop_left' (by simp [l8, leL_length]), List.take_left' (leL_length _ _)]
  · unfold dOf
    rw [e, ← List.append_assoc lockL, ← List.append_assoc (lockL ++ leL G 4), List.drop_left' (by simp [l8, leL_length]), List.take_left' (leL_length _ _)]
theorem super_reads {G I D : Int} (hg : good G I D = true) : rdB (superL G I D) = true ∧ rdV (superL G I D) = geo G I D ∧ rdE (superL G I D) = 0 := by
  have hb := good_iff.1 hg
  obtain ⟨h1, h2, h3⟩ := super_parts G I D
  rw [numL_leL G (by omega) (by omega)] at h1
  rw [numL_leL I (by omega) (by omega)] at h2
  rw [numL_leL D (by omega) (by omega)] at h3
  have h : rdB (superL G I D) = true := by
    unfold rdB
    rw [h1, h2, h3, hg, superL_length]
    simp [eqB]
  refine ⟨h, ?_, (rd_yes h).2⟩
  rw [(rd_yes h).1, h1, h2, h3]

theorem RAt.full {W : World} {g n : Nat} {xs : List Int} (h : RAt W g xs) (hl : xs.length = n) : BAt W (some ⟨g, 0, none⟩) n xs := by
  have h := h.bat 0 n (by omega)
  rwa [List.drop_zero, List.take_of_length_le (by omega)] at h

set_option maxRecDepth 100000 in
set_option maxHeartbeats 2000000 in
theorem alive_any (w : World) : Calls Try.prog 6 #[] w fun e w' => e = .returned (.bool true) ∧ Below w.heap.size w w' := by
  obtain ⟨hr1, hr2, hr3⟩ := super_reads (G := 2) (I := 1) (D := 8) (by decide)
  have HP := Hid.mk (fun W => pack_yes W 2 1 8 (by decide))
  have HR : Hid (∀ (W : World) (g : Nat), RAt W g (superL 2 1 8) → Calls Try.prog 10 #[.slice (some ⟨g, 0, none⟩) 1024 1024] W fun e w' => e = .returned (.tuple #[geo 2 1 8, .int .i64 0]) ∧ Below W.heap.size W w') := Hid.mk (fun W g hr => by
    have h := read_any W (some ⟨g, 0, none⟩) 1024 1024 (superL 2 1 8) (hr.full (superL_length _ _ _)) (superL_bound _ _ _) (by omega) (by omega)
    rwa [hr2, hr3] at h)
  clear hr1 hr2 hr3
  go_enter Try.func6, Try.ntmps6
  go_wp2_with (first
    | (go_at_call 8; refine (HP.out _).mono ?_; rintro e w1 ⟨g, rfl, hrow, hge, hB⟩; obtain ⟨hG1, hB1⟩ := behind hB; have HG1 := Hid.mk hG1; have HB1 := Hid.mk hB1; have HRW := Hid.mk hrow; clear hB hG1 hB1 hrow hge)
    | (go_at_call 10; refine (HR.out _ _ HRW.out).mono ?_; rintro e w2 ⟨rfl, hB⟩; obtain ⟨c0, c1, c2⟩ := (HG1.out.below hB HG1.out.lt).g3; have HB2 := Hid.mk (HB1.out.trans (hB.mono HB1.out.size)); have hlt : w.heap.size < w2.heap.size := Nat.lt_of_lt_of_le HG1.out.lt hB.size; clear hB)
    | (go_at_call 9; refine (num_any _ _).mono ?_; rintro e w3 ⟨rfl, hw⟩; subst w3))
  go_ret
  exact ⟨rfl, HB2.out.alloc HB2.out.size _⟩
end Go.Proofs.Ytebeejmpnkdllaa
