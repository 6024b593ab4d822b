/-
  The root as it is taken in: clean.
-/
import Derived.Test.YtejnmpnioeamhaaGreatWhRep
namespace Go.Proofs.YtejnmpnioeamhaaGreat
open Go Go.Proofs Go.RowKit Go.Shelf
namespace Mk
open Sup (superL headL maskL nI nD bD)
open Din (inoL fineL inoV NAt)
open Ent (blockL okB EAt Ey entV noS noE)
/-- The cells of an inode that is taken in. -/
def takC (l : List Int) (dir : Value) (up : Int) (lead : Value) : List Value := Iy l ++ [dir, .int .i64 up, lead, .slice none 0 0]
/-- It lies at block t. -/
def TkAt (t : Nat) (l : List Int) (dir : Value) (up : Int) (lead : Value) (W : World) : Prop := W.heap[t]? = some (.cells (takC l dir up lead).toArray 72 (0, 0))
theorem TkAt.lt {t : Nat} {l : List Int} {dir : Value} {up : Int} {lead : Value} {W : World} (h : TkAt t l dir up lead W) : t < W.heap.size := lt_of_block h
theorem TkAt.new {t : Nat} {l : List Int} {dir : Value} {up : Int} {lead : Value} {W W' : World} (h : TkAt t l dir up lead W) (hB : Below W.heap.size W W') : TkAt t l dir up lead W' := (hB.block _ h.lt).trans h
theorem TkAt.only {t : Nat} {l : List Int} {dir : Value} {up : Int} {lead : Value} {S : Nat → Prop} {W W' : World} (h : TkAt t l dir up lead W) (ho : Only S W W') (hs : ¬ S t) : TkAt t l dir up lead W' := (ho.block _ h.lt hs).trans h
theorem takC_length (l : List Int) (hl : l.length = 13) (dir : Value) (up : Int) (lead : Value) : (takC l dir up lead).length = 17 := by simp [takC, Iy_length, hl]
theorem TkAt.ints {t : Nat} {l : List Int} {dir : Value} {up : Int} {lead : Value} {W : World} (h : TkAt t l dir up lead W) (i : Nat) (hi : i < l.length) : W.cell? ⟨t, i, none⟩ = some (.int .i64 (l.getD i 0)) := by
  rw [blk_cell h, List.getElem?_toArray]
  unfold takC
  rw [List.getElem?_append_left (by rw [Iy_length]; exact hi)]
  exact Iy_get l i hi
theorem TkAt.rest {t : Nat} {l : List Int} {dir : Value} {up : Int} {lead : Value} {W : World} (h : TkAt t l dir up lead W) (hl : l.length = 13) : W.cell? ⟨t, 13, none⟩ = some dir ∧ W.cell? ⟨t, 14, none⟩ = some (.int .i64 up) ∧ W.cell? ⟨t, 15, none⟩ = some lead ∧ W.cell? ⟨t, 16, none⟩ = some (.slice none 0 0) := by
  have e : ∀ i, W.cell? ⟨t, i + 13, none⟩ = [dir, .int .i64 up, lead, .slice none 0 0][i]? := fun i => by
    rw [blk_cell h, List.getElem?_toArray]
    unfold takC
    rw [List.getElem?_append_right (by rw [Iy_length]; omega), Iy_length, hl, Nat.add_sub_cancel]
  exact ⟨e 0, e 1, e 2, e 3⟩
theorem TkAt.free {t : Nat} {l : List Int} {dir : Value} {up : Int} {lead : Value} {W : World} (h : TkAt t l dir up lead W) (i : Nat) : W.frozen? ⟨t, i, none⟩ = false := blk_free h i
theorem takC_set (l : List Int) (hl : l.length = 13) (dir : Value) (up : Int) (lead : Value) (i : Nat) (hi : i < 13) (y : Int) : (takC l dir up lead).set i (.int .i64 y) = takC (l.set i y) dir up lead := by
  unfold takC
  rw [List.set_append_left _ _ (by rw [Iy_length, hl]; exact hi)]
  simp [Iy, List.map_set]
theorem takC_dir (l : List Int) (hl : l.length = 13) (dir dir' : Value) (up : Int) (lead : Value) : (takC l dir up lead).set 13 dir' = takC l dir' up lead := by
  unfold takC
  rw [List.set_append_right _ _ (by rw [Iy_length, hl]; omega), Iy_length, hl]
  rfl
theorem takC_up (l : List Int) (hl : l.length = 13) (dir : Value) (up up' : Int) (lead : Value) : (takC l dir up lead).set 14 (.int .i64 up') = takC l dir up' lead := by
  unfold takC
  rw [List.set_append_right _ _ (by rw [Iy_length, hl]; omega), Iy_length, hl]
  rfl
theorem takC_lead (l : List Int) (hl : l.length = 13) (dir : Value) (up : Int) (lead lead' : Value) : (takC l dir up lead).set 15 lead' = takC l dir up lead' := by
  unfold takC
  rw [List.set_append_right _ _ (by rw [Iy_length, hl]; omega), Iy_length, hl]
  rfl
theorem takC_meta (l : List Int) (hl : l.length = 13) (dir : Value) (up : Int) (lead : Value) : (takC l dir up lead).set 16 (.slice none 0 0) = takC l dir up lead := by
  unfold takC
  rw [List.set_append_right _ _ (by rw [Iy_length, hl]; omega), Iy_length, hl]
  rfl
/-- The inode within one that is taken in, stored. -/
theorem store_tak {t : Nat} {l m : List Int} {dir : Value} {up : Int} {lead : Value} {W : World} (h : TkAt t l dir up lead W) (hl : l.length = 13) (hm : m.length = 13) : ∃ W', (Instr.storeAt 55 (.pointer (some ⟨t, 0, none⟩)) (inoV m)).run Tryz.prog W = .ok () W' ∧ TkAt t m dir up lead W' ∧ Only (fun k => k = t) W W' := by
  have hst := run_storeCells_at Tryz.prog t 0 72 (Iy m) 0 (takC l dir up lead).toArray W h (by simp [takC_length l hl, Iy_length, hm]) (Iy_one _)
  have e : ((takC l dir up lead).toArray.toList.take (0 + 0) ++ Iy m ++ (takC l dir up lead).toArray.toList.drop (0 + 0 + (Iy m).length)).toArray = (takC m dir up lead).toArray := by
    have e2 : (takC l dir up lead).drop 13 = [dir, .int .i64 up, lead, .slice none 0 0] := by
      unfold takC
      rw [List.drop_append, List.drop_of_length_le (by rw [Iy_length, hl]; exact Nat.le_refl _), Iy_length, hl]
      rfl
    have e3 : (takC l dir up lead).toArray.toList.drop (0 + 0 + (Iy m).length) = [dir, .int .i64 up, lead, .slice none 0 0] := by
      rw [Iy_length, hm]
      exact e2
    rw [e3]
    rfl
  rw [e] at hst
  refine ⟨_, ?_, setRow_heap W t _ _ 72 _ h, (Only.refl (fun k => k = t) W).setRow (.inl rfl) _⟩
  · simp [Instr.storeAt, Instr.sureAddr, storeVar, inoV, Value.cells, Iy_length, hm]
    simpa using hst
/-- .. and loaded. -/
theorem load_tak {t : Nat} {l : List Int} {dir : Value} {up : Int} {lead : Value} {W : World} (h : TkAt t l dir up lead W) (hl : l.length = 13) : (Instr.loadAt 55 (.pointer (some ⟨t, 0, none⟩))).run Tryz.prog W = .ok (inoV l) W := by
  have h := run_loadCells_list (P := Tryz.prog) W ⟨t, 0, none⟩ (Iy l) (fun j v hj => by
    have hjl := (List.getElem?_eq_some_iff.1 hj).1
    rw [Iy_length] at hjl
    rw [Iy_get l j hjl] at hj
    rw [add_at, Nat.zero_add, h.ints j hjl]
    exact hj)
  rw [Iy_length, hl] at h
  simp [Instr.loadAt, Instr.sureAddr, loadVar, h, inoV]
theorem nat_set {b : Nat} {l : List Int} {W : World} (h : NAt b l W) (i : Nat) (y : Int) : NAt b (l.set i y) (W.setCell ⟨b, i, none⟩ (.int .i64 y)) := by
  unfold NAt at *
  rw [blk_set h]
  simp [Iy, List.map_set]
theorem root_set (I : Int) (i : Nat) (y : Int) (h : (rootL I).getD i 0 = y) : (rootL I).set i y = rootL I := by
  apply List.ext_getElem (by simp)
  intro j h1 h2
  rw [List.getElem_set]
  split
  · next e =>
    subst e
    rw [← h]
    simp [List.getD, List.getElem?_eq_getElem h2]
  · rfl
/-- What was stored in the root's variable stood there. -/
theorem nat_same {b : Nat} {I : Int} {W : World} (h : NAt b (rootL I) W) (i : Nat) (y : Int) (hy : (rootL I).getD i 0 = y) : NAt b (rootL I) (W.setCell ⟨b, i, none⟩ (.int .i64 y)) := by
  have h1 := nat_set h i y
  rwa [root_set I i y hy] at h1
/-- What clean holds in memory. -/
structure ClAt (w : World) (p : Rp) (n nb nt : Nat) (G I D : Int) (xs : List Int) (ord : Value) (cl tl : List Value) (B t : Nat) (W : World) : Prop where
  rp : RpAt p n nb nt G I D xs ord cl tl W
  na : NAt B (rootL I) W
  tk : TkAt t (zeros 13) (.slice none 0 0) 0 (.slice none 0 0) W
  only : Only (fun k => k = p.cb) w W
  ge : w.heap.size ≤ B
  lt : p.d < B ∧ p.g < B ∧ p.r < B ∧ p.cb < B ∧ p.tb < B
  bt : B < t
theorem ClAt.new {w : World} {p : Rp} {n nb nt : Nat} {G I D : Int} {xs : List Int} {ord : Value} {cl tl : List Value} {B t : Nat} {W W' : World} (h : ClAt w p n nb nt G I D xs ord cl tl B t W) (hB : Below W.heap.size W W') : ClAt w p n nb nt G I D xs ord cl tl B t W' :=
  ⟨h.rp.new hB, h.na.below hB h.na.lt, h.tk.new hB, h.only.trans (Only.of_new (fun _ => False) hB) (fun _ e => e.elim), h.ge, h.lt, h.bt⟩
theorem ClAt.drew {w : World} {p : Rp} {n nb nt : Nat} {G I D : Int} {xs : List Int} {ord : Value} {cl tl : List Value} {B t : Nat} {W : World} (h : ClAt w p n nb nt G I D xs ord cl tl B t W) : ClAt w p n nb nt G I D xs ord cl tl B t W.drew :=
  ⟨⟨⟨h.rp.dk.dk, h.rp.dk.row⟩, h.rp.rep, h.rp.cla, h.rp.tab, h.rp.ap⟩, h.na, h.tk, h.only.drew, h.ge, h.lt, h.bt⟩
theorem ClAt.same {w : World} {p : Rp} {n nb nt : Nat} {G I D : Int} {xs : List Int} {ord : Value} {cl tl : List Value} {B t : Nat} {W : World} (h : ClAt w p n nb nt G I D xs ord cl tl B t W) (i : Nat) (y : Int) (hy : (rootL I).getD i 0 = y) : ClAt w p n nb nt G I D xs ord cl tl B t (W.setCell ⟨B, i, none⟩ (.int .i64 y)) := by
  have ho := set_only W B i (.int .i64 y)
  obtain ⟨l1, l2, l3, l4, l5⟩ := h.lt
  have hb := h.bt
  exact ⟨h.rp.only ho (by omega) (by omega) (by omega) (by omega) (by omega), nat_same h.na i y hy, h.tk.only ho (by omega), h.only.setCell (p := ⟨B, i, none⟩) (.inr h.ge) _, h.ge, h.lt, h.bt⟩
theorem ClAt.start {w : World} {p : Rp} {n nb nt : Nat} {G I D : Int} {xs : List Int} {ord : Value} {cl tl : List Value} (h : RpAt p n nb nt G I D xs ord cl tl w) (B t : Nat) (hB : B = w.heap.size) (ht : t = w.heap.size + 1) :
    ClAt w p n nb nt G I D xs ord cl tl B t (((w.alloc (.cells (Iy (rootL I)).toArray 55)).setCell ⟨B, 2, none⟩ (.int .i64 1024)).alloc (.cells #[.int .i64 0, .int .i64 0, .int .i64 0, .int .i64 0, .int .i64 0, .int .i64 0, .int .i64 0, .int .i64 0, .int .i64 0, .int .i64 0, .int .i64 0, .int .i64 0, .int .i64 0, .slice none 0 0, .int .i64 0, .slice none 0 0, .slice none 0 0] 72)) := by
  have hlt : p.d < w.heap.size ∧ p.g < w.heap.size ∧ p.r < w.heap.size ∧ p.cb < w.heap.size ∧ p.tb < w.heap.size := ⟨h.dk.lt, h.dk.row.lt, lt_of_block h.rep, lt_of_block h.cla, lt_of_block h.tab⟩
  subst hB
  have hB0 : Below w.heap.size w (w.alloc (.cells (Iy (rootL I)).toArray 55)) := (Below.refl _ w).alloc (Nat.le_refl _) _
  have h1 := h.new hB0
  have hn := NAt.new w (rootL I)
  have ho := set_only (w.alloc (.cells (Iy (rootL I)).toArray 55)) w.heap.size 2 (.int .i64 1024)
  have h2 := h1.only ho (by omega) (by omega) (by omega) (by omega) (by omega)
  have hn2 := nat_same hn 2 1024 rfl
  have hsz : ((w.alloc (.cells (Iy (rootL I)).toArray 55)).setCell ⟨w.heap.size, 2, none⟩ (.int .i64 1024)).heap.size = w.heap.size + 1 := by simp [World.setCell]
  have hO2 : Only (fun k => k = p.cb) w ((w.alloc (.cells (Iy (rootL I)).toArray 55)).setCell ⟨w.heap.size, 2, none⟩ (.int .i64 1024)) := (Only.of_new (fun k => k = p.cb) hB0).trans ho (fun i e => .inr (by omega))
  generalize (w.alloc (.cells (Iy (rootL I)).toArray 55)).setCell ⟨w.heap.size, 2, none⟩ (.int .i64 1024) = Z at *
  have hBZ : ∀ o : Obj, Below Z.heap.size Z (Z.alloc o) := fun o => (Below.refl _ Z).alloc (Nat.le_refl _) _
  refine ⟨h2.new (hBZ _), hn2.below (hBZ _) hn2.lt, ?_, hO2.alloc _, Nat.le_refl _, hlt, by omega⟩
  rw [ht, ← hsz]
  exact blk_new Z _
theorem ClAt.cells {w : World} {p : Rp} {n nb nt : Nat} {G I D : Int} {xs : List Int} {ord : Value} {cl tl : List Value} {B t : Nat} {W : World} (h : ClAt w p n nb nt G I D xs ord cl tl B t W) : W.cell? ⟨B, 2, none⟩ = some (.int .i64 1024) ∧ W.cell? ⟨B, 3, none⟩ = some (.int .i64 (2 + I)) ∧ W.cell? ⟨B, 11, none⟩ = some (.int .i64 0) ∧ W.cell? ⟨B, 12, none⟩ = some (.int .i64 0) ∧ (∀ i, W.frozen? ⟨B, i, none⟩ = false) ∧ ∀ k : Nat, 0 < k → k < 8 → W.cell? ⟨B, 3 + k, none⟩ = some (.int .i64 0) := by
  obtain ⟨c0, c1, c2, c3, c4, c5⟩ := nat_root h.na
  refine ⟨c2, c3, c4, c5, fun i => blk_free h.na i, fun k h0 h8 => ?_⟩
  rw [h.na.cell (3 + k) (by simp [rootL]; omega)]
  obtain rfl | rfl | rfl | rfl | rfl | rfl | rfl : k = 1 ∨ k = 2 ∨ k = 3 ∨ k = 4 ∨ k = 5 ∨ k = 6 ∨ k = 7 := by omega
  all_goals rfl
/-- The claim's row alone has turned. -/
theorem ClAt.kept {w : World} {p : Rp} {n nb nt : Nat} {G I D : Int} {xs : List Int} {ord : Value} {cl cl' tl : List Value} {B t : Nat} {W W' : World} (h : ClAt w p n nb nt G I D xs ord cl tl B t W) (hr : RpAt p n nb nt G I D xs ord cl' tl W') (ho : Only (fun k => k = p.cb) W W') : ClAt w p n nb nt G I D xs ord cl' tl B t W' := by
  obtain ⟨l1, l2, l3, l4, l5⟩ := h.lt
  have hb := h.bt
  exact ⟨hr, h.na.only ho (by omega), h.tk.only ho (by omega), h.only.trans ho (fun i e => .inl e), h.ge, h.lt, h.bt⟩
theorem root_zero (I : Int) (k : Nat) (h0 : 0 < k) (h8 : k < 8) : (rootL I).getD (3 + k) 0 = 0 := by
  obtain rfl | rfl | rfl | rfl | rfl | rfl | rfl : k = 1 ∨ k = 2 ∨ k = 3 ∨ k = 4 ∨ k = 5 ∨ k = 6 ∨ k = 7 := by omega
  all_goals rfl
set_option maxRecDepth 100000 in
set_option maxHeartbeats 8000000 in
theorem clean_root (w : World) (p : Rp) (n nb nt : Nat) (G I D : Int) (hg : good G I D = true) (hnb : 8 ≤ nb ∧ nb ≤ 8000) (xs : List Int) (ord : Value) (tl : List Value) (h : RpAt p n nb nt G I D xs ord (fals nb) tl w) :
    Calls Tryz.prog 96 #[.pointer (some ⟨p.r, 0, none⟩), inoV (rootL I)] w fun e w' => ∃ t, e = .returned (.pointer (some ⟨t, 0, none⟩)) ∧ RpAt p n nb nt G I D xs ord ((fals nb).set 0 (.bool true)) tl w' ∧ TkAt t (rootL I) (.slice none 0 0) 0 (.slice none 0 0) w' ∧ Only (fun k => k = p.cb) w w' ∧ w.heap.size ≤ t := by
  have HKR := Hid.mk (fun W hrp => keep_root W p n nb nt G I D hg hnb xs ord tl hrp)
  have HKN := Hid.mk (fun W hrp f s => keep_no W p n nb nt G I D xs ord ((fals nb).set 0 (.bool true)) tl hrp f s)
  have HN0 := Hid.mk (NAt.new w (rootL I))
  have HR0 := Hid.mk h
  clear hg hnb h
  obtain ⟨B, hBe⟩ : ∃ B, B = w.heap.size := ⟨_, rfl⟩
  have HBE := Hid.mk hBe
  rw [← hBe] at HN0 ⊢
  clear hBe
  go_enter Tryz.func96, Tryz.ntmps96
  obtain ⟨c0, c1, c2, c3, c4, c5⟩ := nat_root HN0.out
  have f2 := blk_free HN0.out 2
  go_wp2_with (refine Din.wpL_box (.tmp 1) rfl rfl (rootL I) rfl ?_; rw [← HBE.out])
  have HCL := Hid.mk (ClAt.start (I := I) HR0.out B (w.heap.size + 1) HBE.out rfl)
  have HTG : Hid (B ≤ w.heap.size + 1) := Hid.mk (by rw [HBE.out]; omega)
  generalize w.heap.size + 1 = t at *
  clear c0 c1 c2 c3 c4 c5 f2 HN0 HR0
  go_loopw [6] (fun i wr => ∃ k : Nat, k ≤ 8 ∧ i = .int .i64 k ∧ (k = 0 → ClAt w p n nb nt G I D xs ord (fals nb) tl B t wr) ∧ (0 < k → ClAt w p n nb nt G I D xs ord ((fals nb).set 0 (.bool true)) tl B t wr)) (fun i _ => 8 - (intOf i).toNat)
  case atStart => exact ⟨0, by omega, rfl, fun _ => HCL.out, fun h => by omega⟩
  case round =>
    obtain ⟨k, hk, rfl, h0, h1⟩ := hrel
    clear HCL
    by_cases hk0 : k = 0
    · subst hk0
      have HC1 := Hid.mk (h0 rfl)
      clear h0 h1
      obtain ⟨c2, c3, c4, c5, cf, ck⟩ := HC1.out.cells
      clear ck
      go_wp2_with fail
      refine wp_region_held_drew (S := fun W => W.cell? ⟨B, 3, none⟩ = some (.int .i64 (2 + I)) ∧ W.cell? ⟨B, 2, none⟩ = some (.int .i64 1024)) (by kernel_rfl) ⟨c3, c2⟩ (fun hH => ?_)
      change wpAnyH Tryz.prog Region.Mode.any _ _ _ 10 _ _ _
      refine takeH 0 32 (.pointer (some ⟨p.r, 0, none⟩)) rfl (by kernel_rfl) (by kernel_rfl) (by kernel_rfl) (by kernel_rfl) (fun _ _ _ h => h) (by kernel_rfl) (fun w hw => by kernel_rfl) hH ?_
      simp only [List.setIfInBounds_toArray, List.set_cons_zero, List.set_cons_succ]
      refine takeH 1 33 (.int .i64 0) rfl (by kernel_rfl) (by kernel_rfl) (by kernel_rfl) (by kernel_rfl) (fun _ _ _ h => h) (by kernel_rfl) (fun w hw => by kernel_rfl) hH ?_
      simp only [List.setIfInBounds_toArray, List.set_cons_zero, List.set_cons_succ]
      refine takeH 2 34 (.pointer (some ⟨B, 3, none⟩)) rfl (by kernel_rfl) (by kernel_rfl) (by kernel_rfl) (by kernel_rfl) (fun _ _ _ h => h) (by kernel_rfl) (fun w hw => by (obtain ⟨g0, g1⟩ := hw; go_simp)) hH ?_
      simp only [List.setIfInBounds_toArray, List.set_cons_zero, List.set_cons_succ]
      refine takeH 3 35 (.pointer (some ⟨B, 3, none⟩)) rfl (by kernel_rfl) (by kernel_rfl) (by kernel_rfl) (by kernel_rfl) (fun _ _ _ h => h) (by kernel_rfl) (fun w hw => by (obtain ⟨g0, g1⟩ := hw; go_simp)) hH ?_
      simp only [List.setIfInBounds_toArray, List.set_cons_zero, List.set_cons_succ]
      refine takeH 4 36 (.int .i64 (2 + I)) rfl (by kernel_rfl) (by kernel_rfl) (by kernel_rfl) (by kernel_rfl) (fun _ _ _ h => h) (by kernel_rfl) (fun w hw => by (obtain ⟨g0, g1⟩ := hw; go_simp)) hH ?_
      simp only [List.setIfInBounds_toArray, List.set_cons_zero, List.set_cons_succ]
      refine takeH 5 37 (.int .i64 0) rfl (by kernel_rfl) (by kernel_rfl) (by kernel_rfl) (by kernel_rfl) (fun _ _ _ h => h) (by kernel_rfl) (fun w hw => by kernel_rfl) hH ?_
      simp only [List.setIfInBounds_toArray, List.set_cons_zero, List.set_cons_succ]
      refine takeH 6 38 (.pointer (some ⟨B, 2, none⟩)) rfl (by kernel_rfl) (by kernel_rfl) (by kernel_rfl) (by kernel_rfl) (fun _ _ _ h => h) (by kernel_rfl) (fun w hw => by (obtain ⟨g0, g1⟩ := hw; go_simp)) hH ?_
      simp only [List.setIfInBounds_toArray, List.set_cons_zero, List.set_cons_succ]
      refine takeH 7 39 (.int .i64 1024) rfl (by kernel_rfl) (by kernel_rfl) (by kernel_rfl) (by kernel_rfl) (fun _ _ _ h => h) (by kernel_rfl) (fun w hw => by (obtain ⟨g0, g1⟩ := hw; go_simp)) hH ?_
      simp only [List.setIfInBounds_toArray, List.set_cons_zero, List.set_cons_succ]
      refine stepH_call 8 40 rfl (by kernel_rfl) (by kernel_rfl) (by kernel_rfl) 82 #[.tmp 32, .tmp 36, .tmp 37, .tmp 39] #[61, 3, 3, 3] (by kernel_rfl) (enters_of Tryz.func82 (by kernel_rfl) rfl) #[.pointer (some ⟨p.r, 0, none⟩), .int .i64 (2 + I), .int .i64 0, .int .i64 1024] (by kernel_rfl) (HKR.out _ HC1.out.drew.rp) ?_
      rintro e w2 ⟨rfl, hrp2, ho2⟩
      have HC2 := Hid.mk (HC1.out.drew.kept hrp2 ho2)
      have hS2 : w2.cell? ⟨B, 3, none⟩ = some (.int .i64 (2 + I)) ∧ w2.cell? ⟨B, 2, none⟩ = some (.int .i64 1024) := ⟨HC2.out.cells.2.1, HC2.out.cells.1⟩
      clear hrp2 ho2
      refine ⟨_, rfl, hS2, ?_⟩
      simp only [List.setIfInBounds_toArray, List.set_cons_zero, List.set_cons_succ]
      refine takeH 9 7 (.bool true) rfl (by kernel_rfl) (by kernel_rfl) (by kernel_rfl) (by kernel_rfl) (fun _ _ _ h => h) (by kernel_rfl) (fun w hw => by kernel_rfl) hS2 ?_
      simp only [List.setIfInBounds_toArray, List.set_cons_zero, List.set_cons_succ]
      refine wpAnyH_done (by kernel_rfl) ?_ _
      clear hS2
      go_wp2
      go_roundw
      case rel => exact ⟨1, by omega, by go_num, fun h => by omega, fun _ => HC2.out⟩
      case measure => simp [intOf]
    · have HC1 := Hid.mk (h1 (by omega))
      clear h0 h1
      by_cases hlt : k < 8
      · obtain ⟨c2, c3, c4, c5, cf, ck⟩ := HC1.out.cells
        have ck1 := ck k (by omega) hlt
        have HZ := Hid.mk (root_zero I k (by omega) hlt)
        clear ck
        go_wp2_with fail
        refine wp_region_held_drew (S := fun W => W.cell? ⟨B, 3 + k, none⟩ = some (.int .i64 0) ∧ W.cell? ⟨B, 2, none⟩ = some (.int .i64 1024)) (by kernel_rfl) ⟨ck1, c2⟩ (fun hH => ?_)
        change wpAnyH Tryz.prog Region.Mode.any _ _ _ 10 _ _ _
        refine takeH 0 32 (.pointer (some ⟨p.r, 0, none⟩)) rfl (by kernel_rfl) (by kernel_rfl) (by kernel_rfl) (by kernel_rfl) (fun _ _ _ h => h) (by kernel_rfl) (fun w hw => by kernel_rfl) hH ?_
        simp only [List.setIfInBounds_toArray, List.set_cons_zero, List.set_cons_succ]
        refine takeH 1 33 (.int .i64 k) rfl (by kernel_rfl) (by kernel_rfl) (by kernel_rfl) (by kernel_rfl) (fun _ _ _ h => h) (by kernel_rfl) (fun w hw => by kernel_rfl) hH ?_
        simp only [List.setIfInBounds_toArray, List.set_cons_zero, List.set_cons_succ]
        refine takeH 2 34 (.pointer (some ⟨B, 3, none⟩)) rfl (by kernel_rfl) (by kernel_rfl) (by kernel_rfl) (by kernel_rfl) (fun _ _ _ h => h) (by kernel_rfl) (fun w hw => by (obtain ⟨g0, g1⟩ := hw; go_simp)) hH ?_
        simp only [List.setIfInBounds_toArray, List.set_cons_zero, List.set_cons_succ]
        refine takeH 3 35 (.pointer (some ⟨B, 3 + k, none⟩)) rfl (by kernel_rfl) (by kernel_rfl) (by kernel_rfl) (by kernel_rfl) (fun _ _ _ h => h) (by kernel_rfl) (fun w hw => by (obtain ⟨g0, g1⟩ := hw; go_simp)) hH ?_
        simp only [List.setIfInBounds_toArray, List.set_cons_zero, List.set_cons_succ]
        refine takeH 4 36 (.int .i64 0) rfl (by kernel_rfl) (by kernel_rfl) (by kernel_rfl) (by kernel_rfl) (fun _ _ _ h => h) (by kernel_rfl) (fun w hw => by (obtain ⟨g0, g1⟩ := hw; go_simp)) hH ?_
        simp only [List.setIfInBounds_toArray, List.set_cons_zero, List.set_cons_succ]
        refine takeH 5 37 (.int .i64 k) rfl (by kernel_rfl) (by kernel_rfl) (by kernel_rfl) (by kernel_rfl) (fun _ _ _ h => h) (by kernel_rfl) (fun w hw => by kernel_rfl) hH ?_
        simp only [List.setIfInBounds_toArray, List.set_cons_zero, List.set_cons_succ]
        refine takeH 6 38 (.pointer (some ⟨B, 2, none⟩)) rfl (by kernel_rfl) (by kernel_rfl) (by kernel_rfl) (by kernel_rfl) (fun _ _ _ h => h) (by kernel_rfl) (fun w hw => by (obtain ⟨g0, g1⟩ := hw; go_simp)) hH ?_
        simp only [List.setIfInBounds_toArray, List.set_cons_zero, List.set_cons_succ]
        refine takeH 7 39 (.int .i64 1024) rfl (by kernel_rfl) (by kernel_rfl) (by kernel_rfl) (by kernel_rfl) (fun _ _ _ h => h) (by kernel_rfl) (fun w hw => by (obtain ⟨g0, g1⟩ := hw; go_simp)) hH ?_
        simp only [List.setIfInBounds_toArray, List.set_cons_zero, List.set_cons_succ]
        refine stepH_call 8 40 rfl (by kernel_rfl) (by kernel_rfl) (by kernel_rfl) 82 #[.tmp 32, .tmp 36, .tmp 37, .tmp 39] #[61, 3, 3, 3] (by kernel_rfl) (enters_of Tryz.func82 (by kernel_rfl) rfl) #[.pointer (some ⟨p.r, 0, none⟩), .int .i64 0, .int .i64 k, .int .i64 1024] (by kernel_rfl) (HKN.out _ HC1.out.drew.rp k 1024) ?_
        rintro e w2 ⟨rfl, hB2⟩
        have HC2 := Hid.mk (HC1.out.drew.new hB2)
        have hS2 : w2.cell? ⟨B, 3 + k, none⟩ = some (.int .i64 0) ∧ w2.cell? ⟨B, 2, none⟩ = some (.int .i64 1024) := ⟨HC2.out.cells.2.2.2.2.2 k (by omega) hlt, HC2.out.cells.1⟩
        clear hB2
        refine ⟨_, rfl, hS2, ?_⟩
        simp only [List.setIfInBounds_toArray, List.set_cons_zero, List.set_cons_succ]
        refine takeH 9 7 (.bool false) rfl (by kernel_rfl) (by kernel_rfl) (by kernel_rfl) (by kernel_rfl) (fun _ _ _ h => h) (by kernel_rfl) (fun w hw => by kernel_rfl) hS2 ?_
        simp only [List.setIfInBounds_toArray, List.set_cons_zero, List.set_cons_succ]
        refine wpAnyH_done (by kernel_rfl) ?_ _
        obtain ⟨e2, e3, e4, e5, ef, ek⟩ := HC2.out.cells
        have ek1 := ek k (by omega) hlt
        have ef1 := ef (3 + k)
        clear hS2 ek ef
        go_wp2
        go_roundw
        case rel => exact ⟨k + 1, by omega, by go_num, fun h => by omega, fun _ => HC2.out.same (3 + k) 0 HZ.out⟩
        case measure => simp [intOf]; omega
      · obtain rfl : k = 8 := by omega
        obtain ⟨c2, c3, c4, c5, cf, ck⟩ := HC1.out.cells
        clear ck cf
        go_wp2_with (first
          | (go_at_call 82; refine (HKN.out _ HC1.out.rp 8 1024).mono ?_; rintro e w2 ⟨rfl, hB2⟩; have HC2 := Hid.mk (HC1.out.new hB2); obtain ⟨e2, e3, e4, e5, ef, ek⟩ := HC2.out.cells; have ef1 := ef 11; have HC3 := Hid.mk (HC2.out.same 11 0 rfl); obtain ⟨d2, d3, d4, d5, df, dk⟩ := HC3.out.cells; clear hB2 ek ef dk df HC1 c2 c3 c4 c5)
          | (go_at_call 82; refine (HKN.out _ HC3.out.rp 264 1024).mono ?_; rintro e w4 ⟨rfl, hB4⟩; have HC4 := Hid.mk (HC3.out.new hB4); obtain ⟨g2, g3, g4, g5, gf, gk⟩ := HC4.out.cells; have gf1 := gf 12; have hc5 := HC4.out.same 12 0 rfl; obtain ⟨W6, r6, t6, o6⟩ := store_tak (m := rootL I) hc5.tk (zeros_length 13) rfl; have HC5 := Hid.mk hc5; have HR6 := Hid.mk r6; have HT6 := Hid.mk t6; have HO6 := Hid.mk o6; clear hB4 gk gf HC3 hc5 r6 t6 o6 d2 d3 d4 d5)
          | (refine Din.wpL_load (.tmp 3) rfl rfl B (rootL I) rfl HC5.out.na rfl ?_)
          | (refine Din.wpL_store (.tmp 157) (.tmp 155) rfl rfl _ _ W6 rfl rfl HR6.out ?_))
        go_ret
        obtain ⟨l1, l2, l3, l4, l5⟩ := HC5.out.lt
        have hb := HC5.out.bt
        exact ⟨t, rfl, HC5.out.rp.only HO6.out (by omega) (by omega) (by omega) (by omega) (by omega), HT6.out, HC5.out.only.trans HO6.out (fun i e => .inr (by have := HC5.out.ge; omega)), HTG.out⟩
end Mk
end Go.Proofs.YtejnmpnioeamhaaGreat
