/-
  The cache's calls: Put.
-/
import Derived.Test.YtmbhjheoomlggaaCaGet
namespace Go.Proofs.Ytmbhjheoomlggaa
open Go Go.Proofs Go.RowKit Go.Shelf
theorem exec_storeB {ev : Operand → Value} {oi : Oper} {p x : Operand} {a : Addr} {ao : Option Addr} {l c : Nat} {v : Value} {W : World} (ho : oi.op = .store 35 p x) (hp : ev p = .pointer (some a)) (hx : ev x = .slice ao l c) (hc : W.cell? a = some v) (hf : W.frozen? a = false) : (execOp ev oi).run Try.prog W = .ok .skip (W.setCell a (.slice ao l c)) := by
  refine exec_store ho hp hx ?_
  simp [go_sem, hc, hf]
abbrev RgH (x : Pl) (W : World) : Prop := W.cell? ⟨x.p, 0, none⟩ = some (ptV x.h)
/-- With other bytes. -/
def Pl.wth (x : Pl) (g cap : Nat) (dat : List Int) : Pl := { x with g := g, cap := cap, dat := dat }
section
variable {F : Nat → Prop} {w : World} {c m : Nat} {reads : Int} {d : Value}
set_option maxRecDepth 100000 in
set_option maxHeartbeats 4000000 in
theorem put_no (L : List Pl) (n : Int) (size : Int) (bo : Option Addr) (bl bc : Nat) (hw : (Lit.int .i64 n).wf = true) (hn : ∀ y ∈ L, y.num ≠ n) (h : CaAt F w c m d size reads L) :
    Calls Try.prog 17 #[ptV c, .int .i64 n, .slice bo bl bc] w fun e w' => e = .returned (.bool false) ∧ w' = w := by
  obtain ⟨c5, hlk⟩ := find_none_look L n hw hn h
  clear h hn hw
  go_enter Try.func17, Try.ntmps17
  go_wp2
  go_ret
  exact ⟨rfl, rfl⟩
set_option maxRecDepth 100000 in
set_option maxHeartbeats 4000000 in
theorem put_free (A B : List Pl) (x : Pl) (size : Int) (bo : Option Addr) (bl bc : Nat) (h : CaAt F w c m d size reads (A ++ x :: B)) (hp : x.pins = 0) :
    Calls Try.prog 17 #[ptV c, .int .i64 x.num, .slice bo bl bc] w fun e w' => e = .returned (.bool false) ∧ w' = w := by
  obtain ⟨c5, hlk⟩ := find_kept_look A B x h
  have p0 := (pl_c1 h.ls.seg.at.2.1).1
  obtain ⟨a0, a1, a2, a3, a4, a5, a6⟩ := hd_cells (h.held x (by simp))
  rw [hp] at a1
  clear h hp
  go_enter Try.func17, Try.ntmps17
  go_wp2
  go_ret
  exact ⟨rfl, rfl⟩
set_option maxRecDepth 100000 in
set_option maxHeartbeats 4000000 in
theorem put_len (A B : List Pl) (x : Pl) (size : Int) (bo : Option Addr) (bl bc : Nat) (h : CaAt F w c m d size reads (A ++ x :: B)) (hp : 0 < x.pins) (hb : bl ≠ 1024) :
    Calls Try.prog 17 #[ptV c, .int .i64 x.num, .slice bo bl bc] w fun e w' => e = .returned (.bool false) ∧ w' = w := by
  obtain ⟨c5, hlk⟩ := find_kept_look A B x h
  have p0 := (pl_c1 h.ls.seg.at.2.1).1
  obtain ⟨a0, a1, a2, a3, a4, a5, a6⟩ := hd_cells (h.held x (by simp))
  have hz : ¬ ((x.pins : Nat) : Int) = 0 := by omega
  have hz2 : (((x.pins : Nat) : Int) == 0) = false := by simpa using hz
  have hz3 : ¬ x.pins = 0 := by omega
  have hb2 : ¬ ((bl : Nat) : Int) = 1024 := by omega
  have hb3 : (((bl : Nat) : Int) == 1024) = false := by simpa using hb2
  clear h hp
  go_enter Try.func17, Try.ntmps17
  go_wp2
  go_ret
  exact ⟨rfl, rfl⟩
set_option maxRecDepth 100000 in
set_option maxHeartbeats 4000000 in
theorem put_yes (A B : List Pl) (x : Pl) (size : Int) (a : Addr) (bc : Nat) (ys : List Int) (h : CaAt F w c m d size reads (A ++ x :: B)) (hl : (A ++ x :: B).length ≤ 1000000) (hp : 0 < x.pins) (hy : BAt w (some a) 1024 ys) :
    Calls Try.prog 17 #[ptV c, .int .i64 x.num, .slice (some a) 1024 bc] w fun e w' => e = .returned (.bool true) ∧ (∃ g cap, CaAt (fun k => F k ∨ w.heap.size ≤ k) w' c m d size reads (A ++ (x.wth g cap ys).by x.pins true :: B)) ∧ Only F w w' := by
  obtain ⟨c5, hlk⟩ := find_kept_look A B x h
  have hxm : x ∈ A ++ x :: B := by simp
  have p0 := (pl_c1 h.ls.seg.at.2.1).1
  obtain ⟨a0, a1, a2, a3, a4, a5, a6⟩ := hd_cells (h.held x hxm)
  have hz : ¬ ((x.pins : Nat) : Int) = 0 := by omega
  have hz2 : (((x.pins : Nat) : Int) == 0) = false := by simpa using hz
  have hz3 : ¬ x.pins = 0 := by omega
  have HCLONE : Hid (Calls Try.prog 32 #[.slice (some a) 1024 bc] w.drew fun e w' => ∃ g cap, e = .returned (.slice (some ⟨g, 0, none⟩) 1024 cap) ∧ w.drew.heap.size ≤ g ∧ w'.ownsRow w.drew.heap.size 5 1 (.slice (some ⟨g, 0, none⟩) 1024 cap) 1024 (By ys) ∧ Below w.drew.heap.size w.drew w') := Hid.mk (by
    obtain ⟨a', e, _, hc⟩ := hy.2 (by omega)
    cases e
    exact Dk.clone_form a 1024 bc ys w.drew hy.1 (by omega) hc)
  have HS0 : Hid (RgH x w.drew) := Hid.mk p0
  have HST : Hid (∀ (w5 : World) (g cap : Nat), w.drew.heap.size ≤ g → w5.ownsRow w.drew.heap.size 5 1 (.slice (some ⟨g, 0, none⟩) 1024 cap) 1024 (By ys) → Below w.drew.heap.size w.drew w5 → RgH x w5 ∧ w5.cell? ⟨x.h, 3, none⟩ = some (.slice (some ⟨x.g, 0, none⟩) 1024 x.cap) ∧ w5.frozen? ⟨x.h, 3, none⟩ = false ∧ RgH x (w5.setCell ⟨x.h, 3, none⟩ (.slice (some ⟨g, 0, none⟩) 1024 cap)) ∧
      CaAt (fun k => F k ∨ w.heap.size ≤ k) (w5.setCell ⟨x.h, 3, none⟩ (.slice (some ⟨g, 0, none⟩) 1024 cap)) c m d size reads (A ++ x.wth g cap ys :: B) ∧ Only F w (w5.setCell ⟨x.h, 3, none⟩ (.slice (some ⟨g, 0, none⟩) 1024 cap))) := Hid.mk (fun w5 g cap hg hown hB => by
    have h5 : CaAt (fun k => F k ∨ w.heap.size ≤ k) w5 c m d size reads (A ++ x :: B) := (h.drew.below hB).mono (fun k hk _ => .inl hk)
    have hx5 := h5.held x hxm
    have hgl : g < w5.heap.size := (hown.lt g rfl).2
    have hg' : w.heap.size ≤ g := hg
    have hgh : g ≠ x.h := by have := h.h_lt hxm; omega
    have hgc : g ≠ c := by have := h.c_lt; omega
    have k := h5.kind hxm hxm
    have hX : HdAt (w5.setCell ⟨x.h, 3, none⟩ (.slice (some ⟨g, 0, none⟩) 1024 cap)) (x.wth g cap ys) := by
      refine ⟨?_, owns_at (owns_base hown (Nat.zero_le _)) (fun k e => ?_)⟩
      · show _ = some (Obj.cells #[.int .i64 x.num, .int .i64 ((x.pins : Nat) : Int), .bool x.dirty, .slice (some ⟨g, 0, none⟩) 1024 cap] 69 (0, 0))
        simpa [Pl.wth] using blk_set (i := 3) (u := Value.slice (some ⟨g, 0, none⟩) 1024 cap) hx5.blk
      · obtain rfl : g = k := by simpa [Value.ownBlock, Pl.wth] using e
        exact set_other _ _ _ _ hgh
    have hidl : idleN (A ++ x.wth g cap ys :: B) = idleN (A ++ x :: B) := by
      rw [idleN_app, idleN_app]
      rfl
    have hC := h5.turn (x' := x.wth g cap ys) (W' := w5.setCell ⟨x.h, 3, none⟩ (.slice (some ⟨g, 0, none⟩) 1024 cap)) rfl rfl rfl (.inr hg') hX (by rw [hidl, set_other _ _ _ _ (fun e => k.1 e.symm)]; exact h5.ls.blk) (fun q _ _ _ hq => set_other _ _ _ _ hq)
    refine ⟨(pl_c1 h5.ls.seg.at.2.1).1, (hd_cells hx5).2.2.2.1, (hd_cells hx5).2.2.2.2.2.2, (pl_c1 hC.ls.seg.at.2.1).1, hC, ?_⟩
    exact (((Only.refl F w).drew).trans (Only.of_new (fun _ => False) hB) (fun _ e => e.elim)).setCell (p := ⟨x.h, 3, none⟩) (.inl (h.inF x hxm).2.1) _)
  have HPX : Hid (0 < x.pins) := Hid.mk hp
  clear h hp hy hxm
  go_enter Try.func17, Try.ntmps17
  go_wp2_with fail
  refine wp_region_held_drew (S := RgH x) (by kernel_rfl) HS0.out (fun hH => ?_)
  change wpAnyH Try.prog Region.Mode.any _ _ _ 9 _ _ _
  refine takeH 0 31 (.pointer (some ⟨x.p, 0, none⟩)) rfl (by kernel_rfl) (by kernel_rfl) (by kernel_rfl) (by kernel_rfl) (fun _ _ _ h => h) (by kernel_rfl) (fun w hw => by kernel_rfl) hH ?_
  simp only [List.setIfInBounds_toArray, List.set_cons_zero, List.set_cons_succ]
  refine takeH 1 32 (.pointer (some ⟨x.p, 0, none⟩)) rfl (by kernel_rfl) (by kernel_rfl) (by kernel_rfl) (by kernel_rfl) (fun _ _ _ h => h) (by kernel_rfl) (fun w hw => by (try dsimp only at hw); go_simp) hH ?_
  simp only [List.setIfInBounds_toArray, List.set_cons_zero, List.set_cons_succ]
  refine takeH 2 33 (.pointer (some ⟨x.p, 0, none⟩)) rfl (by kernel_rfl) (by kernel_rfl) (by kernel_rfl) (by kernel_rfl) (fun _ _ _ h => h) (by kernel_rfl) (fun w hw => by (try dsimp only at hw); go_simp) hH ?_
  simp only [List.setIfInBounds_toArray, List.set_cons_zero, List.set_cons_succ]
  refine takeH 3 34 (.pointer (some ⟨x.h, 0, none⟩)) rfl (by kernel_rfl) (by kernel_rfl) (by kernel_rfl) (by kernel_rfl) (fun _ _ _ h => h) (by kernel_rfl) (fun w hw => by (try dsimp only at hw); go_simp) hH ?_
  simp only [List.setIfInBounds_toArray, List.set_cons_zero, List.set_cons_succ]
  refine takeH 4 35 (.slice (some a) 1024 bc) rfl (by kernel_rfl) (by kernel_rfl) (by kernel_rfl) (by kernel_rfl) (fun _ _ _ h => h) (by kernel_rfl) (fun w hw => by kernel_rfl) hH ?_
  simp only [List.setIfInBounds_toArray, List.set_cons_zero, List.set_cons_succ]
  refine stepH_call 5 36 rfl (by kernel_rfl) (by kernel_rfl) (by kernel_rfl) 32 #[.tmp 35] #[35] (by kernel_rfl) (enters_of Try.func32 (by kernel_rfl) rfl) #[.slice (some a) 1024 bc] (by kernel_rfl) HCLONE.out ?_
  rintro e w5 ⟨g, cap, rfl, hg5, hown5, hB5⟩
  obtain ⟨hH5, hu5, hf5, hH6, hfin⟩ := HST.out w5 g cap hg5 hown5 hB5
  refine ⟨_, rfl, hH5, ?_⟩
  simp only [List.setIfInBounds_toArray, List.set_cons_zero, List.set_cons_succ]
  refine takeH 6 37 (.pointer (some ⟨x.h, 0, none⟩)) rfl (by kernel_rfl) (by kernel_rfl) (by kernel_rfl) (by kernel_rfl) (fun _ _ _ h => h) (by kernel_rfl) (fun w hw => by (try dsimp only at hw); go_simp) hH5 ?_
  simp only [List.setIfInBounds_toArray, List.set_cons_zero, List.set_cons_succ]
  refine takeH 7 38 (.pointer (some ⟨x.h, 3, none⟩)) rfl (by kernel_rfl) (by kernel_rfl) (by kernel_rfl) (by kernel_rfl) (fun _ _ _ h => h) (by kernel_rfl) (fun w hw => by (try dsimp only at hw); go_simp) hH5 ?_
  simp only [List.setIfInBounds_toArray, List.set_cons_zero, List.set_cons_succ]
  refine stepH_one 8 (by kernel_rfl) ?_
  refine opH_store 8 (w5.setCell ⟨x.h, 3, none⟩ (.slice (some ⟨g, 0, none⟩) 1024 cap)) rfl (by kernel_rfl) (by kernel_rfl) (exec_storeB (p := .tmp 38) (x := .tmp 36) (by kernel_rfl) (by kernel_rfl) (by kernel_rfl) hu5 hf5) hH6 ?_
  refine wpAnyH_done (by kernel_rfl) ?_ _
  have HC5 := Hid.mk hfin.1
  have HO5 := Hid.mk hfin.2
  have q1 := hd_cells (hfin.1.held (x.wth g cap ys) (by simp))
  have HS1 : Hid (RgP x (w5.setCell ⟨x.h, 3, none⟩ (.slice (some ⟨g, 0, none⟩) 1024 cap)).drew) := Hid.mk ⟨hH6, q1.2.1⟩
  generalize w5.setCell ⟨x.h, 3, none⟩ (.slice (some ⟨g, 0, none⟩) 1024 cap) = w6 at *
  have HTURN : Hid (Calls Try.prog 30 #[ptV c, ptV x.h, .int .i64 ((x.pins : Nat) : Int), .bool true] w6.drew fun e w' => e = .returned (.tuple #[]) ∧ CaAt (fun k => F k ∨ w.heap.size ≤ k) w' c m d size reads (A ++ (x.wth g cap ys).by x.pins true :: B) ∧ Only (fun k => F k ∨ w.heap.size ≤ k) w6.drew w') := Hid.mk (turn_any A B (x.wth g cap ys) x.pins true hfin.1.drew (by simpa using hl))
  have HST2 : Hid (∀ W, CaAt (fun k => F k ∨ w.heap.size ≤ k) W c m d size reads (A ++ (x.wth g cap ys).by x.pins true :: B) → RgP x W) := Hid.mk (fun W hC => ⟨(pl_c1 hC.ls.seg.at.2.1).1, (hd_cells (hC.held ((x.wth g cap ys).by x.pins true) (by simp))).2.1⟩)
  clear hfin q1 hH hH5 hH6 hu5 hf5 hg5 hown5 hB5 HCLONE HST HS0 hl p0 a0 a1 a2 a3 a4 a5 a6
  go_wp2_with fail
  refine wp_region_held_drew (S := RgP x) (by kernel_rfl) HS1.out (fun hH => ?_)
  change wpAnyH Try.prog Region.Mode.any _ _ _ 13 _ _ _
  refine takeH 0 39 (.pointer (some ⟨c, 0, none⟩)) rfl (by kernel_rfl) (by kernel_rfl) (by kernel_rfl) (by kernel_rfl) (fun _ _ _ h => h) (by kernel_rfl) (fun w hw => by kernel_rfl) hH ?_
  simp only [List.setIfInBounds_toArray, List.set_cons_zero, List.set_cons_succ]
  refine takeH 1 40 (.pointer (some ⟨x.p, 0, none⟩)) rfl (by kernel_rfl) (by kernel_rfl) (by kernel_rfl) (by kernel_rfl) (fun _ _ _ h => h) (by kernel_rfl) (fun w hw => by kernel_rfl) hH ?_
  simp only [List.setIfInBounds_toArray, List.set_cons_zero, List.set_cons_succ]
  refine takeH 2 41 (.pointer (some ⟨x.p, 0, none⟩)) rfl (by kernel_rfl) (by kernel_rfl) (by kernel_rfl) (by kernel_rfl) (fun _ _ _ h => h) (by kernel_rfl) (fun w hw => by (try dsimp only at hw); go_simp) hH ?_
  simp only [List.setIfInBounds_toArray, List.set_cons_zero, List.set_cons_succ]
  refine takeH 3 42 (.pointer (some ⟨x.p, 0, none⟩)) rfl (by kernel_rfl) (by kernel_rfl) (by kernel_rfl) (by kernel_rfl) (fun _ _ _ h => h) (by kernel_rfl) (fun w hw => by (try dsimp only at hw); go_simp) hH ?_
  simp only [List.setIfInBounds_toArray, List.set_cons_zero, List.set_cons_succ]
  refine takeH 4 43 (.pointer (some ⟨x.h, 0, none⟩)) rfl (by kernel_rfl) (by kernel_rfl) (by kernel_rfl) (by kernel_rfl) (fun _ _ _ h => h) (by kernel_rfl) (fun w hw => by (try dsimp only at hw); go_simp) hH ?_
  simp only [List.setIfInBounds_toArray, List.set_cons_zero, List.set_cons_succ]
  refine takeH 5 44 (.pointer (some ⟨x.p, 0, none⟩)) rfl (by kernel_rfl) (by kernel_rfl) (by kernel_rfl) (by kernel_rfl) (fun _ _ _ h => h) (by kernel_rfl) (fun w hw => by kernel_rfl) hH ?_
  simp only [List.setIfInBounds_toArray, List.set_cons_zero, List.set_cons_succ]
  refine takeH 6 45 (.pointer (some ⟨x.p, 0, none⟩)) rfl (by kernel_rfl) (by kernel_rfl) (by kernel_rfl) (by kernel_rfl) (fun _ _ _ h => h) (by kernel_rfl) (fun w hw => by (try dsimp only at hw); go_simp) hH ?_
  simp only [List.setIfInBounds_toArray, List.set_cons_zero, List.set_cons_succ]
  refine takeH 7 46 (.pointer (some ⟨x.p, 0, none⟩)) rfl (by kernel_rfl) (by kernel_rfl) (by kernel_rfl) (by kernel_rfl) (fun _ _ _ h => h) (by kernel_rfl) (fun w hw => by (try dsimp only at hw); go_simp) hH ?_
  simp only [List.setIfInBounds_toArray, List.set_cons_zero, List.set_cons_succ]
  refine takeH 8 47 (.pointer (some ⟨x.h, 0, none⟩)) rfl (by kernel_rfl) (by kernel_rfl) (by kernel_rfl) (by kernel_rfl) (fun _ _ _ h => h) (by kernel_rfl) (fun w hw => by (try dsimp only at hw); go_simp) hH ?_
  simp only [List.setIfInBounds_toArray, List.set_cons_zero, List.set_cons_succ]
  refine takeH 9 48 (.pointer (some ⟨x.h, 0, none⟩)) rfl (by kernel_rfl) (by kernel_rfl) (by kernel_rfl) (by kernel_rfl) (fun _ _ _ h => h) (by kernel_rfl) (fun w hw => by (try dsimp only at hw); go_simp) hH ?_
  simp only [List.setIfInBounds_toArray, List.set_cons_zero, List.set_cons_succ]
  refine takeH 10 49 (.pointer (some ⟨x.h, 1, none⟩)) rfl (by kernel_rfl) (by kernel_rfl) (by kernel_rfl) (by kernel_rfl) (fun _ _ _ h => h) (by kernel_rfl) (fun w hw => by (try dsimp only at hw); go_simp) hH ?_
  simp only [List.setIfInBounds_toArray, List.set_cons_zero, List.set_cons_succ]
  refine takeH 11 50 (.int .i64 ((x.pins : Nat) : Int)) rfl (by kernel_rfl) (by kernel_rfl) (by kernel_rfl) (by kernel_rfl) (fun _ _ _ h => h) (by kernel_rfl) (fun w hw => by (try dsimp only at hw); go_simp) hH ?_
  simp only [List.setIfInBounds_toArray, List.set_cons_zero, List.set_cons_succ]
  refine stepH_call 12 51 rfl (by kernel_rfl) (by kernel_rfl) (by kernel_rfl) 30 #[.tmp 39, .tmp 43, .tmp 50, .const (.bool true)] #[26, 64, 3, 4] (by kernel_rfl) (enters_of Try.func30 (by kernel_rfl) rfl) #[ptV c, ptV x.h, .int .i64 ((x.pins : Nat) : Int), .bool true] (by kernel_rfl) HTURN.out ?_
  rintro e w7 ⟨rfl, hC7, hO7⟩
  have hH7 := HST2.out w7 hC7
  refine ⟨_, rfl, hH7, ?_⟩
  simp only [List.setIfInBounds_toArray, List.set_cons_zero, List.set_cons_succ]
  refine wpAnyH_done (by kernel_rfl) ?_ _
  have HC7 := Hid.mk hC7
  have HO7 := Hid.mk hO7
  clear hC7 hO7 hH hH7 HS1 HST2 HTURN
  go_wp2
  go_ret
  exact ⟨rfl, ⟨g, cap, HC7.out⟩, HO5.out.trans ((Only.refl _ w6).drew.trans HO7.out (fun _ h => .inl h)) (fun _ h => h)⟩
end
end Go.Proofs.Ytmbhjheoomlggaa
