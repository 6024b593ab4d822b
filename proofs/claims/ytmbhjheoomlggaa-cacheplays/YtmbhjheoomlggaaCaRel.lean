/-
  The cache's calls: Release, Get.
-/
import Derived.Test.YtmbhjheoomlggaaCaFind2
namespace Go.Proofs.Ytmbhjheoomlggaa
open Go Go.Proofs Go.RowKit Go.Shelf
/-- What the orders lean on. -/
abbrev RgD (x : Pl) (W : World) : Prop := W.cell? ⟨x.p, 0, none⟩ = some (ptV x.h) ∧ W.cell? ⟨x.h, 2, none⟩ = some (.bool x.dirty)
abbrev RgP (x : Pl) (W : World) : Prop := W.cell? ⟨x.p, 0, none⟩ = some (ptV x.h) ∧ W.cell? ⟨x.h, 1, none⟩ = some (.int .i64 ((x.pins : Nat) : Int))
section
variable {F : Nat → Prop} {w : World} {c m : Nat} {reads : Int} {d : Value}
theorem RgD.of {size : Int} {A B : List Pl} {x : Pl} {q : Nat} (h : CaAt F w c m d size reads (A ++ x.by q x.dirty :: B)) : RgD x w :=
  ⟨(pl_c1 h.ls.seg.at.2.1).1, (hd_cells (h.held (x.by q x.dirty) (by simp))).2.2.1⟩
theorem RgP.of {size : Int} {A B : List Pl} {x : Pl} {dirty : Bool} (h : CaAt F w c m d size reads (A ++ x.by x.pins dirty :: B)) : RgP x w :=
  ⟨(pl_c1 h.ls.seg.at.2.1).1, (hd_cells (h.held (x.by x.pins dirty) (by simp))).2.1⟩
set_option maxRecDepth 100000 in
set_option maxHeartbeats 4000000 in
theorem release_no (L : List Pl) (n : Int) (size : Int) (hw : (Lit.int .i64 n).wf = true) (hn : ∀ y ∈ L, y.num ≠ n) (h : CaAt F w c m d size reads L) :
    Calls Try.prog 15 #[ptV c, .int .i64 n] w fun e w' => e = .returned (.bool false) ∧ w' = w := by
  obtain ⟨c5, hlk⟩ := find_none_look L n hw hn h
  clear h hn hw
  go_enter Try.func15, Try.ntmps15
  go_wp2
  go_ret
  exact ⟨rfl, rfl⟩
set_option maxRecDepth 100000 in
set_option maxHeartbeats 4000000 in
theorem release_free (A B : List Pl) (x : Pl) (size : Int) (h : CaAt F w c m d size reads (A ++ x :: B)) (hp : x.pins = 0) :
    Calls Try.prog 15 #[ptV c, .int .i64 x.num] w fun e w' => e = .returned (.bool false) ∧ w' = w := by
  obtain ⟨c5, hlk⟩ := find_kept_look A B x h
  have p0 := (pl_c1 h.ls.seg.at.2.1).1
  obtain ⟨a0, a1, a2, a3, a4, a5, a6⟩ := hd_cells (h.held x (by simp))
  rw [hp] at a1
  clear h hp
  go_enter Try.func15, Try.ntmps15
  go_wp2
  go_ret
  exact ⟨rfl, rfl⟩
set_option maxRecDepth 100000 in
set_option maxHeartbeats 4000000 in
theorem release_yes (A B : List Pl) (x : Pl) (size : Nat) (h : CaAt F w c m d size reads (A ++ x :: B)) (hl : (A ++ x :: B).length ≤ 1000000) (q : Nat) (hp : x.pins = q + 1) (hq : q ≤ 1000000) :
    Calls Try.prog 15 #[ptV c, .int .i64 x.num] w fun e w' => e = .returned (.bool true) ∧ CaAt F w' c m d size reads (shrL size (A ++ x.by q x.dirty :: B)) ∧ Only F w w' := by
  obtain ⟨c5, hlk⟩ := find_kept_look A B x h
  have p0 := (pl_c1 h.ls.seg.at.2.1).1
  obtain ⟨a0, a1, a2, a3, a4, a5, a6⟩ := hd_cells (h.held x (by simp))
  rw [hp, Int.natCast_add] at a1
  have hz : ¬ ((q : Int) + 1) = 0 := by omega
  have hz2 : (((q : Int) + 1) == 0) = false := by simpa using hz
  have hwr : IntKind.i64.wrap (q : Int) = q := by rw [IntKind.wrap_i64]; omega
  have HTURN := Hid.mk (turn_any A B x q x.dirty h.drew hl)
  have HSH : Hid (∀ W, CaAt F W c m d size reads (A ++ x.by q x.dirty :: B) → Calls Try.prog 31 #[ptV c] W fun e w' => e = .returned (.tuple #[]) ∧ CaAt F w' c m d size reads (shrL size (A ++ x.by q x.dirty :: B)) ∧ Only F W w') := Hid.mk (fun W hC => shrink_any size _ hC (by simpa using hl))
  have HST : Hid (∀ W, CaAt F W c m d size reads (A ++ x.by q x.dirty :: B) → RgD x W) := Hid.mk (fun W hC => RgD.of hC)
  have HS0 : Hid (RgD x w.drew) := Hid.mk ⟨p0, a2⟩
  clear h hp hl
  go_enter Try.func15, Try.ntmps15
  go_wp2_with fail
  refine wp_region_held_drew (S := RgD x) (by kernel_rfl) HS0.out (fun hH => ?_)
  change wpAnyH Try.prog Region.Mode.any _ _ _ 21 _ _ _
  refine takeH 0 24 (.pointer (some ⟨c, 0, none⟩)) rfl (by kernel_rfl) (by kernel_rfl) (by kernel_rfl) (by kernel_rfl) (fun _ _ _ h => h) (by kernel_rfl) (fun w hw => by kernel_rfl) hH ?_
  simp only [List.setIfInBounds_toArray, List.set_cons_zero, List.set_cons_succ]
  refine takeH 1 25 (.pointer (some ⟨x.p, 0, none⟩)) rfl (by kernel_rfl) (by kernel_rfl) (by kernel_rfl) (by kernel_rfl) (fun _ _ _ h => h) (by kernel_rfl) (fun w hw => by kernel_rfl) hH ?_
  simp only [List.setIfInBounds_toArray, List.set_cons_zero, List.set_cons_succ]
  refine takeH 2 26 (.pointer (some ⟨x.p, 0, none⟩)) rfl (by kernel_rfl) (by kernel_rfl) (by kernel_rfl) (by kernel_rfl) (fun _ _ _ h => h) (by kernel_rfl) (fun w hw => by (try dsimp only at hw); go_simp) hH ?_
  simp only [List.setIfInBounds_toArray, List.set_cons_zero, List.set_cons_succ]
  refine takeH 3 27 (.pointer (some ⟨x.p, 0, none⟩)) rfl (by kernel_rfl) (by kernel_rfl) (by kernel_rfl) (by kernel_rfl) (fun _ _ _ h => h) (by kernel_rfl) (fun w hw => by (try dsimp only at hw); go_simp) hH ?_
  simp only [List.setIfInBounds_toArray, List.set_cons_zero, List.set_cons_succ]
  refine takeH 4 28 (.pointer (some ⟨x.h, 0, none⟩)) rfl (by kernel_rfl) (by kernel_rfl) (by kernel_rfl) (by kernel_rfl) (fun _ _ _ h => h) (by kernel_rfl) (fun w hw => by (try dsimp only at hw); go_simp) hH ?_
  simp only [List.setIfInBounds_toArray, List.set_cons_zero, List.set_cons_succ]
  refine takeH 5 29 (.pointer (some ⟨x.p, 0, none⟩)) rfl (by kernel_rfl) (by kernel_rfl) (by kernel_rfl) (by kernel_rfl) (fun _ _ _ h => h) (by kernel_rfl) (fun w hw => by kernel_rfl) hH ?_
  simp only [List.setIfInBounds_toArray, List.set_cons_zero, List.set_cons_succ]
  refine takeH 6 30 (.pointer (some ⟨x.p, 0, none⟩)) rfl (by kernel_rfl) (by kernel_rfl) (by kernel_rfl) (by kernel_rfl) (fun _ _ _ h => h) (by kernel_rfl) (fun w hw => by (try dsimp only at hw); go_simp) hH ?_
  simp only [List.setIfInBounds_toArray, List.set_cons_zero, List.set_cons_succ]
  refine takeH 7 31 (.pointer (some ⟨x.p, 0, none⟩)) rfl (by kernel_rfl) (by kernel_rfl) (by kernel_rfl) (by kernel_rfl) (fun _ _ _ h => h) (by kernel_rfl) (fun w hw => by (try dsimp only at hw); go_simp) hH ?_
  simp only [List.setIfInBounds_toArray, List.set_cons_zero, List.set_cons_succ]
  refine takeH 8 32 (.pointer (some ⟨x.h, 0, none⟩)) rfl (by kernel_rfl) (by kernel_rfl) (by kernel_rfl) (by kernel_rfl) (fun _ _ _ h => h) (by kernel_rfl) (fun w hw => by (try dsimp only at hw); go_simp) hH ?_
  simp only [List.setIfInBounds_toArray, List.set_cons_zero, List.set_cons_succ]
  refine takeH 9 33 (.pointer (some ⟨x.h, 0, none⟩)) rfl (by kernel_rfl) (by kernel_rfl) (by kernel_rfl) (by kernel_rfl) (fun _ _ _ h => h) (by kernel_rfl) (fun w hw => by (try dsimp only at hw); go_simp) hH ?_
  simp only [List.setIfInBounds_toArray, List.set_cons_zero, List.set_cons_succ]
  refine takeH 10 34 (.pointer (some ⟨x.h, 1, none⟩)) rfl (by kernel_rfl) (by kernel_rfl) (by kernel_rfl) (by kernel_rfl) (fun _ _ _ h => h) (by kernel_rfl) (fun w hw => by (try dsimp only at hw); go_simp) hH ?_
  simp only [List.setIfInBounds_toArray, List.set_cons_zero, List.set_cons_succ]
  refine takeH 13 37 (.pointer (some ⟨x.p, 0, none⟩)) rfl (by kernel_rfl) (by kernel_rfl) (by kernel_rfl) (by kernel_rfl) (fun _ _ _ h => h) (by kernel_rfl) (fun w hw => by kernel_rfl) hH ?_
  simp only [List.setIfInBounds_toArray, List.set_cons_zero, List.set_cons_succ]
  refine takeH 14 38 (.pointer (some ⟨x.p, 0, none⟩)) rfl (by kernel_rfl) (by kernel_rfl) (by kernel_rfl) (by kernel_rfl) (fun _ _ _ h => h) (by kernel_rfl) (fun w hw => by (try dsimp only at hw); go_simp) hH ?_
  simp only [List.setIfInBounds_toArray, List.set_cons_zero, List.set_cons_succ]
  refine takeH 15 39 (.pointer (some ⟨x.p, 0, none⟩)) rfl (by kernel_rfl) (by kernel_rfl) (by kernel_rfl) (by kernel_rfl) (fun _ _ _ h => h) (by kernel_rfl) (fun w hw => by (try dsimp only at hw); go_simp) hH ?_
  simp only [List.setIfInBounds_toArray, List.set_cons_zero, List.set_cons_succ]
  refine takeH 16 40 (.pointer (some ⟨x.h, 0, none⟩)) rfl (by kernel_rfl) (by kernel_rfl) (by kernel_rfl) (by kernel_rfl) (fun _ _ _ h => h) (by kernel_rfl) (fun w hw => by (try dsimp only at hw); go_simp) hH ?_
  simp only [List.setIfInBounds_toArray, List.set_cons_zero, List.set_cons_succ]
  refine takeH 17 41 (.pointer (some ⟨x.h, 0, none⟩)) rfl (by kernel_rfl) (by kernel_rfl) (by kernel_rfl) (by kernel_rfl) (fun _ _ _ h => h) (by kernel_rfl) (fun w hw => by (try dsimp only at hw); go_simp) hH ?_
  simp only [List.setIfInBounds_toArray, List.set_cons_zero, List.set_cons_succ]
  refine takeH 18 42 (.pointer (some ⟨x.h, 2, none⟩)) rfl (by kernel_rfl) (by kernel_rfl) (by kernel_rfl) (by kernel_rfl) (fun _ _ _ h => h) (by kernel_rfl) (fun w hw => by (try dsimp only at hw); go_simp) hH ?_
  simp only [List.setIfInBounds_toArray, List.set_cons_zero, List.set_cons_succ]
  refine takeH 19 43 (.bool x.dirty) rfl (by kernel_rfl) (by kernel_rfl) (by kernel_rfl) (by kernel_rfl) (fun _ _ _ h => h) (by kernel_rfl) (fun w hw => by (try dsimp only at hw); go_simp) hH ?_
  simp only [List.setIfInBounds_toArray, List.set_cons_zero, List.set_cons_succ]
  refine stepH 11 35 (.int .i64 ((q : Int) + 1)) rfl (by kernel_rfl) (by kernel_rfl) (by kernel_rfl) (by go_simp) hH ?_
  simp only [List.setIfInBounds_toArray, List.set_cons_zero, List.set_cons_succ]
  refine takeH 12 36 (.int .i64 ((q : Nat) : Int)) rfl (by kernel_rfl) (by kernel_rfl) (by kernel_rfl) (by kernel_rfl) (fun _ _ _ h => h) (by kernel_rfl) (fun w hw => by (try dsimp only at hw); go_simp) hH ?_
  simp only [List.setIfInBounds_toArray, List.set_cons_zero, List.set_cons_succ]
  refine stepH_call 20 44 rfl (by kernel_rfl) (by kernel_rfl) (by kernel_rfl) 30 #[.tmp 24, .tmp 28, .tmp 36, .tmp 43] #[26, 64, 3, 4] (by kernel_rfl) (enters_of Try.func30 (by kernel_rfl) rfl) #[ptV c, ptV x.h, .int .i64 ((q : Nat) : Int), .bool x.dirty] (by kernel_rfl) HTURN.out ?_
  rintro e w5 ⟨rfl, hC5, hO5⟩
  have hH5 := HST.out w5 hC5
  refine ⟨_, rfl, hH5, ?_⟩
  simp only [List.setIfInBounds_toArray, List.set_cons_zero, List.set_cons_succ]
  refine wpAnyH_done (by kernel_rfl) ?_ _
  have HC1 := Hid.mk hC5
  have HO1 := Hid.mk hO5
  clear hC5 hO5 hH hH5 HS0 HST HTURN
  go_wp2_with (go_at_call 31; refine (HSH.out _ HC1.out).mono ?_; rintro e w6 ⟨rfl, hC6, hO6⟩; have HC6 := Hid.mk hC6; have HO6 := Hid.mk hO6; clear hC6 hO6)
  go_ret
  exact ⟨rfl, HC6.out, (Only.drew (Only.refl F w)).trans (HO1.out.trans HO6.out (fun _ h => .inl h)) (fun _ h => .inl h)⟩
end
end Go.Proofs.Ytmbhjheoomlggaa
