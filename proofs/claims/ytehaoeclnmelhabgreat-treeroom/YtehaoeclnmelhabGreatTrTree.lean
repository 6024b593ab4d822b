/-
  A new tree; the calls by their Kinds.
-/
import Derived.Test.YtehaoeclnmelhabGreatTrMake
namespace Go.Proofs.YtehaoeclnmelhabGreat
open Go Go.Proofs Go.RowKit Go.Shelf Go.Sort
open Go.ChangeMaps (setBlock)

def newT (G I D : Int) : Tr := ⟨G, I, D, 1, 1, [newD]⟩
set_option maxRecDepth 100000 in
set_option maxHeartbeats 4000000 in
theorem new_any (w : World) (G I D : Int) :
    Calls Tryz.prog 10 #[geo G I D] w fun e w' => e = .returned (ptrV (w.heap.size + 4)) ∧ TrAt w' (w.heap.size + 4) (newT G I D) [.dir (w.heap.size + 3) (w.heap.size + 2) (w.heap.size + 1) 30] ∧ Below w.heap.size w w' := by
  have mixed : Tryz.prog.follows Departure.mixedOrders = true := by kernel_rfl
  have HN := Hid.mk (fun W => newdir_any W (fun _ => w.heap.size + 3))
  unfold geo
  go_enter Tryz.func10, Tryz.ntmps10
  go_wp2_with fail
  obtain ⟨X, hX⟩ : ∃ X, X = w.alloc (.cells #[.int .i64 G, .int .i64 I, .int .i64 D] 26) := ⟨_, rfl⟩
  have hXB : Below w.heap.size w X := by rw [hX]; exact (Below.refl _ w).alloc (Nat.le_refl _) _
  have hXs : X.heap.size = w.heap.size + 1 := by rw [hX]; simp
  have hX0 : X.heap[w.heap.size]? = some (.cells #[.int .i64 G, .int .i64 I, .int .i64 D] 26 (0, 0)) := by rw [hX]; exact blk_new w _
  rw [← hX]
  have c0 := blk_cell hX0 0
  have c1 := blk_cell hX0 1
  have c2 := blk_cell hX0 2
  simp at c0 c1 c2
  have HCC : Hid (∀ W, Below X.drew.heap.size X.drew W → W.cell? ⟨w.heap.size, 0, none⟩ = some (.int .i64 G) ∧ W.cell? ⟨w.heap.size, 1, none⟩ = some (.int .i64 I) ∧ W.cell? ⟨w.heap.size, 2, none⟩ = some (.int .i64 D)) := Hid.mk (fun W hB => by
    have e := (hB.block w.heap.size (show w.heap.size < X.heap.size by omega)).trans hX0
    exact ⟨by rw [blk_cell e]; rfl, by rw [blk_cell e]; rfl, by rw [blk_cell e]; rfl⟩)
  have HXB := Hid.mk hXB
  have HXS := Hid.mk hXs
  clear hX hXB hXs hX0
  go_region_with (go_at_call 21; refine (HN.out _).mono ?_; rintro e' Wn ⟨rfl, hn, hbn, hsn⟩; obtain ⟨d0, d1, d2⟩ := HCC.out Wn hbn; have XN := Hid.mk hn; have XB := Hid.mk hbn; have XS := Hid.mk hsn; unfold ptrV; clear hn hbn hsn)
  all_goals
    go_wp2
    go_ret
    have hxs : X.drew.heap.size = w.heap.size + 1 := HXS.out
    have hns := XS.out
    have hN := XN.out
    rw [hxs] at hns hN
    have hxs2 : X.heap.size = w.heap.size + 1 := HXS.out
    refine ⟨?_, ?_, ?_⟩
    · simp only [ptrV]
      rw [show w.heap.size + 4 = Wn.heap.size by omega]
      rfl
    · have hlt : ∀ k, k < Wn.heap.size → ∀ o : Obj, (Wn.alloc o).heap[k]? = Wn.heap[k]? := fun k hk o => Below.heap_alloc _ _ _ hk
      have hB0 : Below w.heap.size w Wn := HXB.out.drew.trans (XB.out.mono (by omega))
      refine ⟨?_, rfl, fun i L d hL hd => ?_, ?_, fun d hd q hq => ?_, ⟨2, 1024, _, rfl⟩⟩
      · rw [show w.heap.size + 4 = Wn.heap.size by omega]
        have := blk_new Wn (.cells #[.int .i64 G, .int .i64 I, .int .i64 D, .pointer (some ⟨w.heap.size + 3, 0, none⟩), .int .i64 1, .int .i64 1] 55)
        rw [hxs2]
        exact this
      · match i, hL, hd with
        | 0, hL, hd =>
          cases hL
          cases hd
          have h3 : NdAt Wn (fun _ => w.heap.size + 3) (.dir (w.heap.size + 3) (w.heap.size + 2) (w.heap.size + 1) 30) newD := hN
          refine (h3.kept (fun k hk => hlt k (h3.lt k hk) _)).reloc (fun q hq => ?_)
          have := List.eq_of_mem_replicate hq
          cases this
      · simp [feet, Lay.foot]
      · simp only [newT, List.mem_singleton] at hd
        subst hd
        have := List.eq_of_mem_replicate hq
        cases this
    · have hB0 : Below w.heap.size w Wn := HXB.out.drew.trans (XB.out.mono (by omega))
      exact hB0.alloc hB0.size _
end Go.Proofs.YtehaoeclnmelhabGreat
