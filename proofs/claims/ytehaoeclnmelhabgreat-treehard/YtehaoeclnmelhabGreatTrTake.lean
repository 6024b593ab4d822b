/-
  The room of a tree: fits, take, Used.
-/
import Derived.Test.YtehaoeclnmelhabGreatTrRoom
namespace Go.Proofs.YtehaoeclnmelhabGreat
open Go Go.Proofs Go.RowKit Go.Shelf Go.Sort

/-- Block t is a tree's. -/
def TbAt (W : World) (t : Nat) (G I D : Int) (root : Nat) (i b : Int) : Prop := W.heap[t]? = some (.cells #[.int .i64 G, .int .i64 I, .int .i64 D, ptrV root, .int .i64 i, .int .i64 b] 55 (0, 0))
def fitsB (G I D i b x y : Int) : Bool := decide (w64 (i + x) ≤ inoI G I D) && decide (w64 (b + y) ≤ blkI G I D)
theorem TbAt.below {W W' : World} {t root : Nat} {G I D i b : Int} (h : TbAt W t G I D root i b) (hB : Below W.heap.size W W') : TbAt W' t G I D root i b := (hB.block t (lt_of_block h)).trans h
theorem wrap_eq (n : Int) : IntKind.i64.wrap n = wrap64 n := by rw [IntKind.wrap_i64, wrap64]
set_option maxRecDepth 100000 in
set_option maxHeartbeats 2000000 in
theorem fits_any (w : World) (t root : Nat) (G I D i b : Int) (h : TbAt w t G I D root i b) (x y : Int) :
    Calls Tryz.prog 61 #[ptrV t, .int .i64 x, .int .i64 y] w fun e w' => e = .returned (.bool (fitsB G I D i b x y)) ∧ Below w.heap.size w w' := by
  have mixed : Tryz.prog.follows Departure.mixedOrders = true := by kernel_rfl
  have e0 := blk_cell h 0
  have e1 := blk_cell h 1
  have e2 := blk_cell h 2
  have e4 := blk_cell h 4
  have e5 := blk_cell h 5
  simp at e0 e1 e2 e4 e5
  have k0 := cell_regrown e0
  have k1 := cell_regrown e1
  have k2 := cell_regrown e2
  have k4 := cell_regrown e4
  have k5 := cell_regrown e5
  have cI : ∀ d os, Calls Tryz.prog 75 #[.agg #[.int .i64 G, .int .i64 I, .int .i64 D]] (grow (redrawn w d) os) fun e w'' => e = .returned (.int .i64 (inoI G I D)) ∧ ∃ p : Regrown, w'' = grow (redrawn w p.d) p.os := fun d os => Calls.regrown_of (inodes_any _ G I D)
  have cB : ∀ d os, Calls Tryz.prog 76 #[.agg #[.int .i64 G, .int .i64 I, .int .i64 D]] (grow (redrawn w d) os) fun e w'' => e = .returned (.int .i64 (blkI G I D)) ∧ ∃ p : Regrown, w'' = grow (redrawn w p.d) p.os := fun d os => Calls.regrown_of (blocks_any _ G I D)
  clear h e0 e1 e2 e4 e5
  unfold fitsB w64
  unfold ptrV
  cases hg : decide (wrap64 (i + x) ≤ inoI G I D) with
  | true =>
    go_enter Tryz.func61, Tryz.ntmps61
    go_wp2
    refine wp_region_quiet_below (by assumption) (by kernel_rfl) ?_
    repeat (go_big_quiet_step (first | (go_at_call 75; exact cI _ _) | (go_at_call 76; exact cB _ _)))
    refine wpQuiet_nil ?_
    intro _ hw'
    obtain ⟨⟨dq, osq⟩, hw''⟩ := hw'
    subst hw''
    go_wp2
    go_ret
    refine ⟨?_, below_regrown w dq osq⟩
    show Ending.returned (Value.bool (decide (wrap64 (b + y) ≤ blkI G I D))) = _
    rw [Bool.true_and]
  | false =>
    go_enter Tryz.func61, Tryz.ntmps61
    go_wp2
    refine wp_region_quiet_below (by assumption) (by kernel_rfl) ?_
    repeat (go_big_quiet_step (first | (go_at_call 75; exact cI _ _) | (go_at_call 76; exact cB _ _)))
    refine wpQuiet_nil ?_
    intro _ hw'
    obtain ⟨⟨dq, osq⟩, hw''⟩ := hw'
    subst hw''
    go_wp2
    go_ret
    refine ⟨?_, below_regrown w dq osq⟩
    show Ending.returned (Value.bool false) = _
    rw [Bool.false_and]
set_option maxRecDepth 100000 in
set_option maxHeartbeats 2000000 in
theorem take_any (w : World) (t root : Nat) (G I D i b : Int) (h : TbAt w t G I D root i b) (x y : Int) :
    Calls Tryz.prog 43 #[ptrV t, .int .i64 x, .int .i64 y] w fun e w' => (fitsB G I D i b x y = false ∧ e = .returned (.int .i64 16) ∧ Below w.heap.size w w') ∨ (fitsB G I D i b x y = true ∧ e = .returned (.int .i64 0) ∧ TbAt w' t G I D root (w64 (i + x)) (w64 (b + y)) ∧ Only (fun k => k = t) w w') := by
  have HF := Hid.mk (fits_any w t root G I D i b h x y)
  have HH := Hid.mk h
  clear h
  cases hg : fitsB G I D i b x y with
  | false =>
    rw [hg] at HF
    unfold ptrV at *
    go_enter Tryz.func43, Tryz.ntmps43
    go_wp2_with (go_at_call 61; refine HF.out.mono ?_; rintro e W1 ⟨rfl, hB⟩; have HB := Hid.mk hB; clear hB)
    go_ret
    exact .inl ⟨trivial, rfl, HB.out⟩
  | true =>
    rw [hg] at HF
    unfold ptrV at *
    go_enter Tryz.func43, Tryz.ntmps43
    go_wp2_with (go_at_call 61; refine HF.out.mono ?_; rintro e W1 ⟨rfl, hB⟩; have h1 := HH.out.below hB; have e4 := blk_cell h1 4; have e5 := blk_cell h1 5; have f4 := blk_free h1 4; have f5 := blk_free h1 5; simp at e4 e5; have HB := Hid.mk hB; have H1 := Hid.mk h1; clear hB h1)
    go_ret
    refine .inr ⟨trivial, rfl, ?_, ((Only.of_new (fun k => k = t) HB.out).setCell (p := ⟨t, 4, none⟩) (.inl rfl) _).setCell (p := ⟨t, 5, none⟩) (.inl rfl) _⟩
    unfold TbAt
    rw [blk_set (blk_set H1.out)]
    rfl
set_option maxRecDepth 100000 in
theorem used_any (w : World) (t root : Nat) (G I D i b : Int) (h : TbAt w t G I D root i b) :
    Calls Tryz.prog 16 #[ptrV t] w fun e w' => e = .returned (.tuple #[.int .i64 i, .int .i64 b]) ∧ Below w.heap.size w w' := by
  have e4 := blk_cell h 4
  have e5 := blk_cell h 5
  simp at e4 e5
  clear h
  unfold ptrV at *
  go_enter Tryz.func16, Tryz.ntmps16
  go_wp2
  go_region
  go_wp2
  refine bodyPost_ret (results_tmp2 rfl _ _ _) rfl ?_
  exact ⟨rfl, below_drewN w 1⟩
end Go.Proofs.YtehaoeclnmelhabGreat
