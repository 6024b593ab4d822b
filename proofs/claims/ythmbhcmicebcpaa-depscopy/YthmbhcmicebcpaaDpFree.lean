/-
  A change that hangs on nothing any more: free.
-/
import Derived.Test.YthmbhcmicebcpaaDpCells
namespace Go.Proofs.Ythmbhcmicebcpaa
open Go Go.Proofs Go.RowKit Go.Shelf
theorem updC_twice {α : Type} (f : Int → Option α) (i : Int) (o p : Option α) : updC (updC f i o) i p = updC f i p := by
  funext j
  by_cases e : j = i
  · subst e; rw [updC_same, updC_same]
  · rw [updC_other _ _ e, updC_other _ _ e, updC_other _ _ e]
set_option maxRecDepth 100000 in
set_option maxHeartbeats 4000000 in
theorem free_any {F : Nat → Prop} {W : World} {g : Nat} {D : Gd} (h : GrAt F W g D) {i : Int} {c : Cx} (hi : D.ch i = some c) {x : Bx} (hx : D.bf c.buf = some x) (hw : (Lit.int .i64 i).wf = true) (hwb : (Lit.int .i64 c.buf).wf = true) (hn : x.nx.length < 1000000) :
    Calls Try.prog 57 #[ptV g, ptV c.cb] W fun e W' => e = .returned (.tuple #[]) ∧ ∃ nm', GrAt (Grown F W) W' g { D with bf := updC D.bf c.buf (some ⟨insS i x.nx, delS i x.bl, x.bb, nm', x.km⟩) } ∧ Only F W W' := by
  obtain ⟨_, g1, g2, _⟩ := h.cellsG
  obtain ⟨c0, c1, _, _, _⟩ := h.cellsC hi
  have q1 := h.drew.lookB hwb
  rw [hx] at q1
  simp only [Option.map_some, optV] at q1
  have hs0 : W.drew.drew.cell? ⟨c.cb, 0, none⟩ = some (.int .i64 i) := c0
  have HS1 := Hid.mk hs0
  have HREM := Hid.mk (h.drew.drew.blRem hx i hw)
  clear hs0
  go_enter Try.func57, Try.ntmps57
  go_wp2
  go_region
  go_wp2
  refine wp_region_held_drew (S := fun W' => W'.cell? ⟨c.cb, 0, none⟩ = some (.int .i64 i)) (by kernel_rfl) HS1.out (fun hH => ?_)
  change wpAnyH Try.prog Region.Mode.any _ _ _ 8 _ _ _
  refine takeH 0 14 (.pointer (some ⟨x.bb, 0, none⟩)) rfl (by kernel_rfl) (by kernel_rfl) (by kernel_rfl) (by kernel_rfl) (fun _ _ _ h => h) (by kernel_rfl) (fun w hw => by kernel_rfl) hH ?_
  simp only [List.setIfInBounds_toArray, List.set_cons_zero, List.set_cons_succ]
  refine takeH 1 15 (.pointer (some ⟨x.bb, 0, none⟩)) rfl (by kernel_rfl) (by kernel_rfl) (by kernel_rfl) (by kernel_rfl) (fun _ _ _ h => h) (by kernel_rfl) (fun w hw => by (try dsimp only at hw); go_simp) hH ?_
  simp only [List.setIfInBounds_toArray, List.set_cons_zero, List.set_cons_succ]
  refine takeH 2 16 (.pointer (some ⟨x.bb, 1, none⟩)) rfl (by kernel_rfl) (by kernel_rfl) (by kernel_rfl) (by kernel_rfl) (fun _ _ _ h => h) (by kernel_rfl) (fun w hw => by (try dsimp only at hw); go_simp) hH ?_
  simp only [List.setIfInBounds_toArray, List.set_cons_zero, List.set_cons_succ]
  refine takeH 3 17 (.pointer (some ⟨c.cb, 0, none⟩)) rfl (by kernel_rfl) (by kernel_rfl) (by kernel_rfl) (by kernel_rfl) (fun _ _ _ h => h) (by kernel_rfl) (fun w hw => by kernel_rfl) hH ?_
  simp only [List.setIfInBounds_toArray, List.set_cons_zero, List.set_cons_succ]
  refine takeH 4 18 (.pointer (some ⟨c.cb, 0, none⟩)) rfl (by kernel_rfl) (by kernel_rfl) (by kernel_rfl) (by kernel_rfl) (fun _ _ _ h => h) (by kernel_rfl) (fun w hw => by (try dsimp only at hw); go_simp) hH ?_
  simp only [List.setIfInBounds_toArray, List.set_cons_zero, List.set_cons_succ]
  refine takeH 5 19 (.pointer (some ⟨c.cb, 0, none⟩)) rfl (by kernel_rfl) (by kernel_rfl) (by kernel_rfl) (by kernel_rfl) (fun _ _ _ h => h) (by kernel_rfl) (fun w hw => by (try dsimp only at hw); go_simp) hH ?_
  simp only [List.setIfInBounds_toArray, List.set_cons_zero, List.set_cons_succ]
  refine takeH 6 20 (.int .i64 i) rfl (by kernel_rfl) (by kernel_rfl) (by kernel_rfl) (by kernel_rfl) (fun _ _ _ h => h) (by kernel_rfl) (fun w hw => by (try dsimp only at hw); go_simp) hH ?_
  simp only [List.setIfInBounds_toArray, List.set_cons_zero, List.set_cons_succ]
  refine stepH_call 7 21 rfl (by kernel_rfl) (by kernel_rfl) (by kernel_rfl) 56 #[.tmp 16, .tmp 20] #[64, 3] (by kernel_rfl) (enters_of Try.func56 (by kernel_rfl) rfl) #[.pointer (some ⟨x.bb, 1, none⟩), .int .i64 i] (by kernel_rfl) HREM.out ?_
  rintro e w1 ⟨r1, rfl, hg1, ho1, _⟩
  have hc1 := (hg1.cellsC hi).1
  have HG1 := Hid.mk hg1
  have HO1 := Hid.mk ho1
  clear hg1 ho1
  refine ⟨_, rfl, hc1, ?_⟩
  simp only [List.setIfInBounds_toArray, List.set_cons_zero, List.set_cons_succ]
  refine wpAnyH_done (by kernel_rfl) ?_ _
  have hx1 : updC D.bf c.buf (some ⟨x.nx, delS i x.bl, x.bb, x.nm, x.km⟩) c.buf = some ⟨x.nx, delS i x.bl, x.bb, x.nm, x.km⟩ := updC_same _ _ _
  have HADD := Hid.mk (HG1.out.drew.nxAdd (b := c.buf) (x := ⟨x.nx, delS i x.bl, x.bb, x.nm, x.km⟩) hx1 i hw hn)
  have HS2 : Hid (w1.drew.cell? ⟨c.cb, 0, none⟩ = some (.int .i64 i)) := Hid.mk hc1
  simp only [updC_twice] at HADD
  clear hx1
  go_wp2
  refine wp_region_held_drew (S := fun W' => W'.cell? ⟨c.cb, 0, none⟩ = some (.int .i64 i)) (by kernel_rfl) HS2.out (fun hH => ?_)
  change wpAnyH Try.prog Region.Mode.any _ _ _ 8 _ _ _
  refine takeH 0 22 (.pointer (some ⟨x.bb, 0, none⟩)) rfl (by kernel_rfl) (by kernel_rfl) (by kernel_rfl) (by kernel_rfl) (fun _ _ _ h => h) (by kernel_rfl) (fun w hw => by kernel_rfl) hH ?_
  simp only [List.setIfInBounds_toArray, List.set_cons_zero, List.set_cons_succ]
  refine takeH 1 23 (.pointer (some ⟨x.bb, 0, none⟩)) rfl (by kernel_rfl) (by kernel_rfl) (by kernel_rfl) (by kernel_rfl) (fun _ _ _ h => h) (by kernel_rfl) (fun w hw => by (try dsimp only at hw); go_simp) hH ?_
  simp only [List.setIfInBounds_toArray, List.set_cons_zero, List.set_cons_succ]
  refine takeH 2 24 (.pointer (some ⟨x.bb, 0, none⟩)) rfl (by kernel_rfl) (by kernel_rfl) (by kernel_rfl) (by kernel_rfl) (fun _ _ _ h => h) (by kernel_rfl) (fun w hw => by (try dsimp only at hw); go_simp) hH ?_
  simp only [List.setIfInBounds_toArray, List.set_cons_zero, List.set_cons_succ]
  refine takeH 3 25 (.pointer (some ⟨c.cb, 0, none⟩)) rfl (by kernel_rfl) (by kernel_rfl) (by kernel_rfl) (by kernel_rfl) (fun _ _ _ h => h) (by kernel_rfl) (fun w hw => by kernel_rfl) hH ?_
  simp only [List.setIfInBounds_toArray, List.set_cons_zero, List.set_cons_succ]
  refine takeH 4 26 (.pointer (some ⟨c.cb, 0, none⟩)) rfl (by kernel_rfl) (by kernel_rfl) (by kernel_rfl) (by kernel_rfl) (fun _ _ _ h => h) (by kernel_rfl) (fun w hw => by (try dsimp only at hw); go_simp) hH ?_
  simp only [List.setIfInBounds_toArray, List.set_cons_zero, List.set_cons_succ]
  refine takeH 5 27 (.pointer (some ⟨c.cb, 0, none⟩)) rfl (by kernel_rfl) (by kernel_rfl) (by kernel_rfl) (by kernel_rfl) (fun _ _ _ h => h) (by kernel_rfl) (fun w hw => by (try dsimp only at hw); go_simp) hH ?_
  simp only [List.setIfInBounds_toArray, List.set_cons_zero, List.set_cons_succ]
  refine takeH 6 28 (.int .i64 i) rfl (by kernel_rfl) (by kernel_rfl) (by kernel_rfl) (by kernel_rfl) (fun _ _ _ h => h) (by kernel_rfl) (fun w hw => by (try dsimp only at hw); go_simp) hH ?_
  simp only [List.setIfInBounds_toArray, List.set_cons_zero, List.set_cons_succ]
  refine stepH_call 7 29 rfl (by kernel_rfl) (by kernel_rfl) (by kernel_rfl) 47 #[.tmp 24, .tmp 28] #[64, 3] (by kernel_rfl) (enters_of Try.func47 (by kernel_rfl) rfl) #[.pointer (some ⟨x.bb, 0, none⟩), .int .i64 i] (by kernel_rfl) HADD.out ?_
  rintro e w2 ⟨r2, rfl, nm', hg2, ho2, _⟩
  have hc2 := (hg2.cellsC hi).1
  have HG2 := Hid.mk hg2
  have HO2 := Hid.mk ho2
  clear hg2 ho2
  refine ⟨_, rfl, hc2, ?_⟩
  simp only [List.setIfInBounds_toArray, List.set_cons_zero, List.set_cons_succ]
  refine wpAnyH_done (by kernel_rfl) ?_ _
  go_wp2
  go_end0
  refine ⟨rfl, nm', ?_, ?_⟩
  · refine HG2.out.mono (fun k _ hk => ?_)
    have := HO1.out.size
    rcases hk with hk | hk
    · exact hk
    · exact .inr (Nat.le_trans this hk)
  · exact only_grown (W1 := w1.drew) ((Only.refl F W).drew.drew.trans (T := F) HO1.out (fun _ h => .inl h)).drew HO2.out
end Go.Proofs.Ythmbhcmicebcpaa
