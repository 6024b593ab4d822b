/-
  New nodes, and a new tree.
-/
import Derived.Test.YtehaoeclnmelhacGreatTrTurn
namespace Go.Proofs.YtehaoeclnmelhacGreat
open Go Go.Proofs Go.RowKit Go.Shelf

theorem zero_ptr_none (loc : Nat → Nat) (n : Nat) : (List.replicate n (none : Slt)).map (fun o => slotC loc o) = List.replicate n [strV [], .pointer none] := by simp [slotC]
theorem plF_none (n : Nat) (p : List UInt8) : plF (List.replicate n none) (.string p) = none := by
  refine pf_no (fun i a e => ?_)
  rw [List.getElem?_replicate] at e
  split at e <;> cases e
theorem names_none (n : Nat) : namesOk (List.replicate n none) := by
  refine names_of (fun i j a b p h1 _ => ?_) (fun a p hm => ?_)
  · rw [List.getElem?_replicate] at h1
    split at h1 <;> cases h1
  · have := List.eq_of_mem_replicate hm
    cases this
theorem used_none (n : Nat) : usedN (List.replicate n none) = 0 := by
  have := used_more [] n
  rw [List.nil_append] at this
  rw [this]
  rfl
set_option maxRecDepth 100000 in
theorem make_slots (w : World) : (Instr.makeSlice 58 (.int .i64 30) (.int .i64 30)).run Tryz.prog w = .ok (.slice (some ⟨w.heap.size, 0, none⟩) 30 30) (w.alloc (.cells (slotCs id (List.replicate 30 none)).toArray 91)) := by kernel_rfl
theorem slots_id (loc : Nat → Nat) (n : Nat) : slotCs id (List.replicate n none) = slotCs loc (List.replicate n none) := slotCs_loc (fun q hq => by have := List.eq_of_mem_replicate hq; cases this)
set_option maxRecDepth 100000 in
set_option maxHeartbeats 2000000 in
theorem newdir_any (w : World) (loc : Nat → Nat) :
    Calls Tryz.prog 17 #[] w fun e w' => e = .returned (ptrV (w.heap.size + 2)) ∧ NdAt w' loc (.dir (w.heap.size + 2) (w.heap.size + 1) w.heap.size 30) newD ∧ Below w.heap.size w w' ∧ w'.heap.size = w.heap.size + 3 := by
  have hmm := @run_makeMap Tryz.prog
  have hms := make_slots w
  rw [slots_id loc] at hms
  obtain ⟨cs, hcs⟩ : ∃ cs, cs = slotCs loc (List.replicate 30 none) := ⟨_, rfl⟩
  rw [← hcs] at hms
  have HCS := Hid.mk hcs
  clear hcs
  go_enter Tryz.func17, Tryz.ntmps17
  go_wp2
  go_ret
  refine ⟨rfl, ?_, ?_, by simp⟩
  · have q0 := blk_new w (.cells cs.toArray 91)
    have q1 := MAt.new (w.alloc (.cells cs.toArray 91)) 9
    have q2 := blk_new ((w.alloc (.cells cs.toArray 91)).alloc (.map #[] 0)) (.cells #[.int .i64 2, .int .i64 2, .int .i64 1024, .map none, .slice (some ⟨w.heap.size, 0, none⟩) 30 30, .map (some (w.heap.size + 1))] 62)
    simp only [World.size_alloc] at q1 q2
    show DrAt _ loc (w.heap.size + 2) (w.heap.size + 1) w.heap.size 30 2 1024 (List.replicate 30 none)
    have hlen : (List.replicate 30 (none : Slt)).length = 30 := by simp
    refine ⟨by rw [hlen]; exact q2, ?_, ?_, names_none 30⟩
    · rw [hlen]
      refine ⟨by rw [slotCs_length, hlen], .inr ⟨w.heap.size, 30, cs.toArray, rfl, Nat.zero_le _, ?_, Nat.le_refl _, by unfold maxLen; omega, ?_, ?_⟩⟩
      · rw [Below.heap_alloc _ _ _ (by simp; omega), Below.heap_alloc _ _ _ (by simp)]
        exact q0
      · rw [HCS.out]; simp [slotCs_length]
      · rw [← HCS.out]
        simp only
        rw [List.take_of_length_le]
        rw [HCS.out, slotCs_length, hlen]
        omega
    · rw [used_none]
      refine MAt.names (q1.kept ?_) (fun q => (plF_none 30 q).symm)
      exact Below.heap_alloc _ _ _ (by simp)
  · exact (((Below.refl _ w).alloc (Nat.le_refl _) _).alloc (by simp) _).alloc (by simp; omega) _
set_option maxRecDepth 100000 in
set_option maxHeartbeats 2000000 in
theorem newfile_any (w : World) (loc : Nat → Nat) :
    Calls Tryz.prog 34 #[] w fun e w' => e = .returned (ptrV (w.heap.size + 1)) ∧ NdAt w' loc (.file (w.heap.size + 1) w.heap.size []) newF ∧ Below w.heap.size w w' ∧ w'.heap.size = w.heap.size + 2 := by
  have hmm := @run_makeMap Tryz.prog
  go_enter Tryz.func34, Tryz.ntmps34
  go_wp2
  go_ret
  refine ⟨rfl, ?_, ?_, by simp⟩
  · have q1 := MAt.new w 3
    have q2 := blk_new (w.alloc (.map #[] 0)) (.cells #[.int .i64 1, .int .i64 1, .int .i64 0, .map (some w.heap.size), .slice none 0 0, .map none] 62)
    simp only [World.size_alloc] at q2
    show FlAt _ (w.heap.size + 1) w.heap.size [] 1 0 []
    refine ⟨q2, ?_, rfl, fun i x q hx => by simp at hx⟩
    refine (q1.kept ?_).say (fun key kl hk => ?_)
    · exact Below.heap_alloc _ _ _ (by simp)
    · unfold flF
      split <;> simp
  · exact ((Below.refl _ w).alloc (Nat.le_refl _) _).alloc (by simp) _
end Go.Proofs.YtehaoeclnmelhacGreat
