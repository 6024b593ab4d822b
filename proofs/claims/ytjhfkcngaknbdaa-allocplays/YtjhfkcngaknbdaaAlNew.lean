/-
  A new Alloc: all is free.
-/
import Derived.Test.YtjhfkcngaknbdaaAlTurn
import Derived.Test.YtjhfkcngaknbdaaSupBitRows
namespace Go.Proofs.Ytjhfkcngaknbdaa
open Go Go.Proofs Go.RowKit Go.Shelf
open Sup

abbrev noT : Nat → Bool := fun _ => false
theorem getN_zeros (n q : Nat) : getN (zeros n) q = false := by
  unfold getN bitB
  have : (zeros n).getD (q / 8) 0 = 0 := by
    unfold zeros
    rcases Nat.lt_or_ge (q / 8) n with h | h
    · simp [List.getD, h]
    · simp [List.getD, h]
  rw [this]
  simp
theorem drop_zeros (n k : Nat) : (zeros n).drop k = zeros (n - k) := by unfold zeros; simp
theorem RowIs.none (N L k : Nat) (n : Nat) : RowIs L N noT k (maskL (zeros n) N L) := by
  refine ⟨maskL_length _ _ _, maskL_bound _ _ _ (zeros_bound n), fun q => ?_⟩
  rcases Nat.lt_or_ge q (8 * L) with h | h
  · rw [getN_mask _ _ _ _ (zeros_bound n) h, getN_zeros]
  · rw [getN_none _ _ (by rw [maskL_length]; omega)]
    simp
/-- A pool of a new block. -/
theorem PlAt.made {W : World} {b off G S L : Nat} {cs : Array Value} {T : TypeId} {v : Value} (hg : G ≤ 8) (h : W.heap[b]? = some (.cells cs T (0, 0))) (hs : off + 10 ≤ cs.size) (h0 : cs[off]? = some (.int .i64 G)) (h1 : cs[off + 1]? = some (.int .i64 S)) (hk : ∀ k, k < 8 → cs[off + 2 + k]? = some (rk v G k)) (hvs : ∃ ao l c, v = .slice ao l c)
    (hv : 0 < G → ∃ a c xs, v = .slice (some a) L c ∧ BAt W (some a) L xs ∧ (∀ k, RowIs L S noT k xs) ∧ a.block < b) : PlAt W b off G S L noT := by
  refine ⟨hg, ⟨cs, T, h, hs⟩, by rw [blk_cell h]; exact h0, by rw [blk_cell h]; exact h1, fun k hkG => ?_, fun k hk8 => by (obtain ⟨ao, l, c, rfl⟩ := hvs; have hc := hk k hk8; unfold rk at hc; rw [blk_cell h, hc]; split; exact ⟨_, _, _, rfl⟩; exact ⟨_, _, _, rfl⟩)⟩
  obtain ⟨a, c, xs, rfl, hb, hr, hlt⟩ := hv (by omega)
  have hc := hk k (by omega)
  unfold rk at hc
  rw [if_pos hkG] at hc
  exact ⟨some a, L, c, xs, by rw [blk_cell h]; exact hc, ⟨hb, rfl, hr k, (fun e => by cases e), (fun a' e => by cases e; exact ⟨by omega, by have := lt_of_block h; omega⟩)⟩⟩
theorem exec_box54 {ev : Operand → Value} {oi : Oper} {x : Operand} {cs : Array Value} {W : World} (ho : oi.op = .box 54 x) (hx : ev x = .agg cs) : (execOp ev oi).run Try.prog W = .ok (.value (.pointer (some ⟨W.heap.size, 0, none⟩))) (W.alloc (.cells cs 54)) := by
  unfold execOp
  rw [ho]
  simp only [hx]
  simp [Instr.box, newVar, newRow, Value.cells]
abbrev zero23 : Array Value := #[.int .i64 0, .int .i64 0, .int .i64 0, .int .i64 0, .int .i64 0, .slice none 0 0, .slice none 0 0, .slice none 0 0, .slice none 0 0, .slice none 0 0, .slice none 0 0, .slice none 0 0, .slice none 0 0, .int .i64 0, .int .i64 0, .slice none 0 0, .slice none 0 0, .slice none 0 0, .slice none 0 0, .slice none 0 0, .slice none 0 0, .slice none 0 0, .slice none 0 0]
theorem info54 : (Try.prog.info? 54).map (fun i => (i.zero, i.size)) = some (some (.agg zero23), 23) := by kernel_rfl
theorem info54p : ∃ i0, Try.prog.info? 54 = some i0 ∧ i0.zero = some (.agg zero23) ∧ i0.size = 23 := by
  cases h : Try.prog.info? 54 with
  | none => have := info54; rw [h] at this; cases this
  | some i =>
    have h2 := info54
    rw [h] at h2
    simp at h2
    exact ⟨i, rfl, h2.1, h2.2⟩
theorem exec_build54 {ev : Operand → Value} {oi : Oper} {x y z : Operand} {a0 a1 a2 b0 b1 b2 b3 b4 b5 b6 b7 b8 b9 c0 c1 c2 c3 c4 c5 c6 c7 c8 c9 : Value} {W : World} (ho : oi.op = .build 54 #[(0, x), (1, y), (2, z)]) (hx : ev x = .agg #[a0, a1, a2]) (hy : ev y = .agg #[b0, b1, b2, b3, b4, b5, b6, b7, b8, b9]) (hz : ev z = .agg #[c0, c1, c2, c3, c4, c5, c6, c7, c8, c9]) : (execOp ev oi).run Try.prog W = .ok (.value (.agg #[a0, a1, a2, b0, b1, b2, b3, b4, b5, b6, b7, b8, b9, c0, c1, c2, c3, c4, c5, c6, c7, c8, c9])) W := by
  obtain ⟨i0, hi, hz0, hz1⟩ := info54p
  unfold execOp
  rw [ho]
  simp [Instr.build, run_underlying Try.underlying54, zeroValue, typeInfo, hi, hz0, Value.cells, Instr.fill, hx, hy, hz]
theorem exec_build54z {ev : Operand → Value} {oi : Oper} {W : World} (ho : oi.op = .build 54 #[]) : (execOp ev oi).run Try.prog W = .ok (.value (.agg zero23)) W := by
  obtain ⟨i0, hi, hz0, hz1⟩ := info54p
  unfold execOp
  rw [ho]
  simp [Instr.build, run_underlying Try.underlying54, zeroValue, typeInfo, hi, hz0, Value.cells, Instr.fill]
theorem exec_make39 {P : Program} {ev : Operand → Value} {oi : Oper} {t : TypeId} {l c : Operand} {vl vc v' : Value} {w w' : World} (ho : oi.op = .makeSlice t l c) (hl : ev l = vl) (hc : ev c = vc) (h : (Instr.makeSlice t vl vc).run P w = .ok v' w') : (execOp ev oi).run P w = .ok (.value v') w' := by
  unfold execOp
  simp only [ho, Sem.run_bind, Sem.run_pure, Result.andThen_ok, hl, hc, h]
theorem eight {k : Nat} (h : k < 8) : k = 0 ∨ k = 1 ∨ k = 2 ∨ k = 3 ∨ k = 4 ∨ k = 5 ∨ k = 6 ∨ k = 7 := by omega
theorem wpList_knownA {P : Program} {w : World} {ops : Array Oper} {rest : List Oper} {o : Oper} {a : Act} {Q : Exit → Act → World → Prop} (hw : Region.wanted o (yielded ops a.tmps) = true) (v : Value) (w' : World)
    (hrun : (execOp a.eval o).run P w = .ok (.value v) w') (h : wpList P ops Q rest (a.put o.dst v) w') : wpList P ops Q (o :: rest) a w := by
  refine BigFrame.wpList_want hw fun K hK => ?_
  unfold Oper.wp
  rw [hrun, Oper.upon_value]
  exact hK _ _ h
set_option maxRecDepth 100000 in
theorem new_no (w : World) (G I D : Int) (hg : good G I D = false) :
    Calls Try.prog 9 #[geo G I D] w fun e w' => ∃ b, e = .returned (.pointer (some ⟨b, 0, none⟩)) ∧ w.heap.size ≤ b ∧ AlAt w' b 0 0 0 noT noT ∧ Below w.heap.size w w' := by
  have HG := Hid.mk hg
  clear hg
  go_enter Try.func9, Try.ntmps9
  go_wp2_with (first
    | (go_at_call 26; refine (check_no _ G I D HG.out).mono ?_; rintro e w1 ⟨rfl, hB⟩; obtain ⟨hG1, hB1⟩ := behind hB; have HB1 := Hid.mk hB1; clear hB hG1 hB1)
    | (refine wpList_knownA rfl _ _ (exec_build54z rfl) ?_)
    | (refine wpList_knownA rfl _ _ (exec_box54 (x := .tmp 8) rfl rfl) ?_))
  go_ret
  have hb := HB1.out
  have hN := blk_new w1 (.cells zero23 54)
  refine ⟨_, rfl, hb.size, ⟨by rw [blk_cell hN]; rfl, by rw [blk_cell hN]; rfl, by rw [blk_cell hN]; rfl, ?_, ?_, .inr ⟨rfl, rfl, rfl⟩, ⟨_, _, hN, rfl⟩⟩, hb.alloc hb.size _⟩
  · exact PlAt.made (v := .slice none 0 0) (by omega) hN (by decide) rfl rfl (fun k hk => by rcases eight hk with rfl | rfl | rfl | rfl | rfl | rfl | rfl | rfl <;> rfl) ⟨_, _, _, rfl⟩ (fun h => by omega)
  · exact PlAt.made (v := .slice none 0 0) (by omega) hN (by decide) rfl rfl (fun k hk => by rcases eight hk with rfl | rfl | rfl | rfl | rfl | rfl | rfl | rfl <;> rfl) ⟨_, _, _, rfl⟩ (fun h => by omega)
set_option maxRecDepth 100000 in
set_option maxHeartbeats 4000000 in
theorem new_yes (w : World) (g i d : Nat) (hg : good (g : Int) (i : Int) (d : Int) = true) :
    Calls Try.prog 9 #[geo g i d] w fun e w' => ∃ b, e = .returned (.pointer (some ⟨b, 0, none⟩)) ∧ w.heap.size ≤ b ∧ AlAt w' b g i d noT noT ∧ Below w.heap.size w w' := by
  have HG := Hid.mk hg
  have hb := good_iff.1 hg
  obtain ⟨s16, hs⟩ : ∃ s16, s16 = 16 * i := ⟨_, rfl⟩
  have hw16 : IntKind.i64.wrap ((i : Int) * 16) = (s16 : Int) := by rw [IntKind.wrap_i64]; omega
  have HS := Hid.mk hs
  have hg8 : g ≤ 8 := by omega
  clear hg hb hs
  go_enter Try.func9, Try.ntmps9
  go_wp2_with (go_at_call 26; refine (check_yes _ g i d HG.out).mono ?_; rintro e w1 ⟨rfl, hB⟩; obtain ⟨hG1, hB1⟩ := behind hB; have HG0 := Hid.mk hG1; have HB1 := Hid.mk hB1; clear hB hG1 hB1)
  have HK : Hid (∀ W', Below w1.heap.size w1.drew W' → G3 w.heap.size g i d W') := Hid.mk (fun W' hB => (GAt.below (W := w1.drew) HG0.out hB HG0.out.lt).g3)
  have hzb : BAt (w1.drew.alloc (.cells (By (zeros 1024)).toArray 5)) (some ⟨w1.drew.heap.size, 0, none⟩) 1024 (zeros 1024) := by
    refine ⟨zeros_length _, fun _ => ⟨_, rfl, by simp, fun j hj => ?_⟩⟩
    rw [add_at, blk_cell (blk_new w1.drew _), Nat.zero_add]
    simpa using By_get (zeros 1024) j (by rw [zeros_length]; exact hj)
  have HBITS := Hid.mk (bits_yes (w1.drew.alloc (.cells (By (zeros 1024)).toArray 5)) g i d HG.out ⟨w1.drew.heap.size, 0, none⟩ 1024 (zeros 1024) hzb (zeros_bound _) (Nat.le_refl _))
  have HBA : Hid (Below w1.heap.size w1.drew (w1.drew.alloc (.cells (By (zeros 1024)).toArray 5))) := Hid.mk ((Below.refl w1.drew.heap.size w1.drew).alloc (Nat.le_refl _) _)
  have HBC : Hid (∀ W', Below (w1.drew.alloc (.cells (By (zeros 1024)).toArray 5)).heap.size (w1.drew.alloc (.cells (By (zeros 1024)).toArray 5)) W' → Below w1.heap.size w1.drew W') := Hid.mk (fun W' hB => HBA.out.trans (hB.mono HBA.out.size))
  clear hzb
  refine wp_region_held_drew (S := G3 w.heap.size g i d) (by kernel_rfl) (HK.out _ (Below.refl _ _)) (fun hH => ?_)
  change wpAnyH Try.prog Region.Mode.any _ _ _ 8 _ _ _
  refine takeH 0 11 (geo g i d) rfl (by kernel_rfl) (by kernel_rfl) (by kernel_rfl) (by kernel_rfl) (fun _ _ _ h => h) (by kernel_rfl) (fun w hw => by (try dsimp only at hw); go_simp) hH ?_
  simp only [List.setIfInBounds_toArray, List.set_cons_zero, List.set_cons_succ]
  refine stepH_run 1 12 (.slice (some ⟨w1.drew.heap.size, 0, none⟩) 1024 1024) (w1.drew.alloc (.cells (By (zeros 1024)).toArray 5)) rfl (by kernel_rfl) (by kernel_rfl) (by kernel_rfl) (exec_make39 (l := .const (.int .i64 1024)) (c := .const (.int .i64 1024)) rfl (by kernel_rfl) (by kernel_rfl) (make_run w1.drew 1024 (by omega))) (HK.out _ HBA.out) ?_
  simp only [List.setIfInBounds_toArray, List.set_cons_zero, List.set_cons_succ]
  refine stepH_call 2 13 rfl (by kernel_rfl) (by kernel_rfl) (by kernel_rfl) 27 #[.tmp 11, .tmp 12] #[23, 39] (by kernel_rfl) (enters_of Try.func27 (by kernel_rfl) rfl) #[geo g i d, .slice (some ⟨w1.drew.heap.size, 0, none⟩) 1024 1024] (by kernel_rfl) HBITS.out ?_
  rintro e w5 ⟨g1, g2, rfl, hR1, hR2, hB5⟩
  have hb5 := HBC.out _ hB5
  have hH5 := HK.out _ hb5
  refine ⟨_, rfl, hH5, ?_⟩
  simp only [List.setIfInBounds_toArray, List.set_cons_zero, List.set_cons_succ]
  refine takeH 3 10 (.tuple #[.slice (some ⟨g1, 0, none⟩) 8 8, .slice (some ⟨g2, 0, none⟩) (bD d) (bD d)]) rfl (by kernel_rfl) (by kernel_rfl) (by kernel_rfl) (by kernel_rfl) (fun _ _ _ h => h) (by kernel_rfl) (fun w hw => by kernel_rfl) hH5 ?_
  simp only [List.setIfInBounds_toArray, List.set_cons_zero, List.set_cons_succ]
  refine takeH 4 14 (.slice (some ⟨g1, 0, none⟩) 8 8) rfl (by kernel_rfl) (by kernel_rfl) (by kernel_rfl) (by kernel_rfl) (fun _ _ _ h => h) (by kernel_rfl) (fun w hw => by (try dsimp only at hw); go_simp) hH5 ?_
  simp only [List.setIfInBounds_toArray, List.set_cons_zero, List.set_cons_succ]
  refine takeH 5 15 (.slice (some ⟨g2, 0, none⟩) (bD d) (bD d)) rfl (by kernel_rfl) (by kernel_rfl) (by kernel_rfl) (by kernel_rfl) (fun _ _ _ h => h) (by kernel_rfl) (fun w hw => by (try dsimp only at hw); go_simp) hH5 ?_
  simp only [List.setIfInBounds_toArray, List.set_cons_zero, List.set_cons_succ]
  refine takeH 6 3 (.slice (some ⟨g1, 0, none⟩) 8 8) rfl (by kernel_rfl) (by kernel_rfl) (by kernel_rfl) (by kernel_rfl) (fun _ _ _ h => h) (by kernel_rfl) (fun w hw => by kernel_rfl) hH5 ?_
  simp only [List.setIfInBounds_toArray, List.set_cons_zero, List.set_cons_succ]
  refine takeH 7 4 (.slice (some ⟨g2, 0, none⟩) (bD d) (bD d)) rfl (by kernel_rfl) (by kernel_rfl) (by kernel_rfl) (by kernel_rfl) (fun _ _ _ h => h) (by kernel_rfl) (fun w hw => by kernel_rfl) hH5 ?_
  simp only [List.setIfInBounds_toArray, List.set_cons_zero, List.set_cons_succ]
  refine wpAnyH_done (by kernel_rfl) ?_ _
  have hG5 : GAt w.heap.size g i d w5 := GAt.below (W := w1.drew) HG0.out hb5 HG0.out.lt
  have HG5 := Hid.mk hG5
  have hB05 : Below w.heap.size w w5 := HB1.out.drew.trans (hb5.mono HB1.out.size)
  have HB05 := Hid.mk hB05
  have HR := Hid.mk (And.intro hR1 hR2)
  have HL1 : Hid (g1 < w5.heap.size ∧ g2 < w5.heap.size) := Hid.mk ⟨lt_of_block hR1, lt_of_block hR2⟩
  obtain ⟨v1, hv1⟩ : ∃ v1 : Value, v1 = .slice (some ⟨g1, 0, none⟩) 8 8 := ⟨_, rfl⟩
  obtain ⟨v2, hv2⟩ : ∃ v2 : Value, v2 = .slice (some ⟨g2, 0, none⟩) (bD d) (bD d) := ⟨_, rfl⟩
  rw [← hv1, ← hv2]
  have HV1 := Hid.mk hv1
  have HV2 := Hid.mk hv2
  have HN1 : Hid (∀ W, Calls Try.prog 28 #[.int .i64 g, .int .i64 s16, v1] W fun e w' => e = .returned (.agg (plE v1 g s16).toArray) ∧ Below W.heap.size W w') := Hid.mk (fun W => by rw [hv1]; exact newpool_any W g s16 hg8 _ _ _)
  have HN2 : Hid (∀ W, Calls Try.prog 28 #[.int .i64 g, .int .i64 d, v2] W fun e w' => e = .returned (.agg (plE v2 g d).toArray) ∧ Below W.heap.size W w') := Hid.mk (fun W => by rw [hv2]; exact newpool_any W g d hg8 _ _ _)
  dsimp only [plE] at HN1 HN2
  have HK5 : Hid (∀ W', Below w5.heap.size w5.drew W' → G3 w.heap.size g i d W') := Hid.mk (fun W' hB => (GAt.below (W := w5.drew) HG5.out hB HG5.out.lt).g3)
  have HBD : Hid (∀ W', Below w5.drew.heap.size w5.drew W' → Below w5.heap.size w5.drew W') := Hid.mk (fun _ h => h)
  clear hv1 hv2 hR1 hR2 hG5 hB05 hH5 hH hB5 HBITS HBA HBC
  go_wp2_with fail
  refine wp_region_held_drew (S := G3 w.heap.size g i d) (by kernel_rfl) (HK5.out _ (Below.refl _ _)) (fun hH => ?_)
  change wpAnyH Try.prog Region.Mode.any _ _ _ 17 _ _ _
  refine takeH 0 16 (geo g i d) rfl (by kernel_rfl) (by kernel_rfl) (by kernel_rfl) (by kernel_rfl) (fun _ _ _ h => h) (by kernel_rfl) (fun w hw => by (try dsimp only at hw); go_simp) hH ?_
  simp only [List.setIfInBounds_toArray, List.set_cons_zero, List.set_cons_succ]
  refine takeH 1 17 (.pointer (some ⟨w.heap.size, 0, none⟩)) rfl (by kernel_rfl) (by kernel_rfl) (by kernel_rfl) (by kernel_rfl) (fun _ _ _ h => h) (by kernel_rfl) (fun w hw => by (try dsimp only at hw); go_simp) hH ?_
  simp only [List.setIfInBounds_toArray, List.set_cons_zero, List.set_cons_succ]
  refine takeH 2 18 (.int .i64 g) rfl (by kernel_rfl) (by kernel_rfl) (by kernel_rfl) (by kernel_rfl) (fun _ _ _ h => h) (by kernel_rfl) (fun w hw => by (try dsimp only at hw); go_simp) hH ?_
  simp only [List.setIfInBounds_toArray, List.set_cons_zero, List.set_cons_succ]
  refine takeH 3 19 (.pointer (some ⟨w.heap.size, 1, none⟩)) rfl (by kernel_rfl) (by kernel_rfl) (by kernel_rfl) (by kernel_rfl) (fun _ _ _ h => h) (by kernel_rfl) (fun w hw => by (try dsimp only at hw); go_simp) hH ?_
  simp only [List.setIfInBounds_toArray, List.set_cons_zero, List.set_cons_succ]
  refine takeH 4 20 (.int .i64 i) rfl (by kernel_rfl) (by kernel_rfl) (by kernel_rfl) (by kernel_rfl) (fun _ _ _ h => h) (by kernel_rfl) (fun w hw => by (try dsimp only at hw); go_simp) hH ?_
  simp only [List.setIfInBounds_toArray, List.set_cons_zero, List.set_cons_succ]
  refine takeH 5 21 (.int .i64 s16) rfl (by kernel_rfl) (by kernel_rfl) (by kernel_rfl) (by kernel_rfl) (fun _ _ _ h => h) (by kernel_rfl) (fun w hw => by (try dsimp only at hw); go_simp) hH ?_
  simp only [List.setIfInBounds_toArray, List.set_cons_zero, List.set_cons_succ]
  refine takeH 6 22 (v1) rfl (by kernel_rfl) (by kernel_rfl) (by kernel_rfl) (by kernel_rfl) (fun _ _ _ h => h) (by kernel_rfl) (fun w hw => by kernel_rfl) hH ?_
  simp only [List.setIfInBounds_toArray, List.set_cons_zero, List.set_cons_succ]
  refine takeH 8 24 (.pointer (some ⟨w.heap.size, 0, none⟩)) rfl (by kernel_rfl) (by kernel_rfl) (by kernel_rfl) (by kernel_rfl) (fun _ _ _ h => h) (by kernel_rfl) (fun w hw => by (try dsimp only at hw); go_simp) hH ?_
  simp only [List.setIfInBounds_toArray, List.set_cons_zero, List.set_cons_succ]
  refine takeH 9 25 (.int .i64 g) rfl (by kernel_rfl) (by kernel_rfl) (by kernel_rfl) (by kernel_rfl) (fun _ _ _ h => h) (by kernel_rfl) (fun w hw => by (try dsimp only at hw); go_simp) hH ?_
  simp only [List.setIfInBounds_toArray, List.set_cons_zero, List.set_cons_succ]
  refine takeH 10 26 (.pointer (some ⟨w.heap.size, 2, none⟩)) rfl (by kernel_rfl) (by kernel_rfl) (by kernel_rfl) (by kernel_rfl) (fun _ _ _ h => h) (by kernel_rfl) (fun w hw => by (try dsimp only at hw); go_simp) hH ?_
  simp only [List.setIfInBounds_toArray, List.set_cons_zero, List.set_cons_succ]
  refine takeH 11 27 (.int .i64 d) rfl (by kernel_rfl) (by kernel_rfl) (by kernel_rfl) (by kernel_rfl) (fun _ _ _ h => h) (by kernel_rfl) (fun w hw => by (try dsimp only at hw); go_simp) hH ?_
  simp only [List.setIfInBounds_toArray, List.set_cons_zero, List.set_cons_succ]
  refine takeH 12 28 (v2) rfl (by kernel_rfl) (by kernel_rfl) (by kernel_rfl) (by kernel_rfl) (fun _ _ _ h => h) (by kernel_rfl) (fun w hw => by kernel_rfl) hH ?_
  simp only [List.setIfInBounds_toArray, List.set_cons_zero, List.set_cons_succ]
  refine stepH_call 7 23 rfl (by kernel_rfl) (by kernel_rfl) (by kernel_rfl) 28 #[.tmp 18, .tmp 21, .tmp 22] #[3, 3, 39] (by kernel_rfl) (enters_of Try.func28 (by kernel_rfl) rfl) #[.int .i64 g, .int .i64 s16, v1] (by kernel_rfl) (HN1.out _) ?_
  rintro e w6 ⟨rfl, hB6⟩
  have hb6 := HBD.out _ hB6
  have hH6 := HK5.out _ hb6
  refine ⟨_, rfl, hH6, ?_⟩
  simp only [List.setIfInBounds_toArray, List.set_cons_zero, List.set_cons_succ]
  refine stepH_call 13 29 rfl (by kernel_rfl) (by kernel_rfl) (by kernel_rfl) 28 #[.tmp 25, .tmp 27, .tmp 28] #[3, 3, 39] (by kernel_rfl) (enters_of Try.func28 (by kernel_rfl) rfl) #[.int .i64 g, .int .i64 d, v2] (by kernel_rfl) (HN2.out _) ?_
  rintro e w7 ⟨rfl, hB7⟩
  have hb7 : Below w5.heap.size w5.drew w7 := hb6.trans (hB7.mono hb6.size)
  have hH7 := HK5.out _ hb7
  refine ⟨_, rfl, hH7, ?_⟩
  simp only [List.setIfInBounds_toArray, List.set_cons_zero, List.set_cons_succ]
  refine takeH 14 30 (.agg #[.int .i64 g, .int .i64 i, .int .i64 d, .int .i64 g, .int .i64 s16, rk v1 g 0, rk v1 g 1, rk v1 g 2, rk v1 g 3, rk v1 g 4, rk v1 g 5, rk v1 g 6, rk v1 g 7, .int .i64 g, .int .i64 d, rk v2 g 0, rk v2 g 1, rk v2 g 2, rk v2 g 3, rk v2 g 4, rk v2 g 5, rk v2 g 6, rk v2 g 7]) rfl (by kernel_rfl) (by kernel_rfl) (by kernel_rfl) (by kernel_rfl) (fun _ _ _ h => h) (by kernel_rfl) (fun w hw => by (try dsimp only at hw); exact exec_build54 (x := .tmp 16) (y := .tmp 23) (z := .tmp 29) rfl (by kernel_rfl) (by kernel_rfl) (by kernel_rfl)) hH7 ?_
  simp only [List.setIfInBounds_toArray, List.set_cons_zero, List.set_cons_succ]
  refine stepH_run 15 31 (.pointer (some ⟨w7.heap.size, 0, none⟩)) (w7.alloc (.cells #[.int .i64 g, .int .i64 i, .int .i64 d, .int .i64 g, .int .i64 s16, rk v1 g 0, rk v1 g 1, rk v1 g 2, rk v1 g 3, rk v1 g 4, rk v1 g 5, rk v1 g 6, rk v1 g 7, .int .i64 g, .int .i64 d, rk v2 g 0, rk v2 g 1, rk v2 g 2, rk v2 g 3, rk v2 g 4, rk v2 g 5, rk v2 g 6, rk v2 g 7] 54)) rfl (by kernel_rfl) (by kernel_rfl) (by kernel_rfl) (exec_box54 (x := .tmp 30) rfl (by kernel_rfl)) (HK5.out _ (hb7.alloc hb7.size _)) ?_
  simp only [List.setIfInBounds_toArray, List.set_cons_zero, List.set_cons_succ]
  refine takeH 16 2 (.pointer (some ⟨w7.heap.size, 0, none⟩)) rfl (by kernel_rfl) (by kernel_rfl) (by kernel_rfl) (by kernel_rfl) (fun _ _ _ h => h) (by kernel_rfl) (fun w hw => by kernel_rfl) (HK5.out _ (hb7.alloc hb7.size _)) ?_
  simp only [List.setIfInBounds_toArray, List.set_cons_zero, List.set_cons_succ]
  refine wpAnyH_done (by kernel_rfl) ?_ _
  go_wp2
  go_ret
  have hs := HS.out
  have hgd := good_iff.1 HG.out
  have hN := blk_new w7 (.cells #[.int .i64 g, .int .i64 i, .int .i64 d, .int .i64 g, .int .i64 s16, rk v1 g 0, rk v1 g 1, rk v1 g 2, rk v1 g 3, rk v1 g 4, rk v1 g 5, rk v1 g 6, rk v1 g 7, .int .i64 g, .int .i64 d, rk v2 g 0, rk v2 g 1, rk v2 g 2, rk v2 g 3, rk v2 g 4, rk v2 g 5, rk v2 g 6, rk v2 g 7] 54)
  have hb57 : Below w5.heap.size w5 w7 := ⟨hb7.os, hb7.tape, hb7.output, hb7.size, hb7.block⟩
  have hb78 : Below w5.heap.size w5 (w7.alloc (.cells #[.int .i64 g, .int .i64 i, .int .i64 d, .int .i64 g, .int .i64 s16, rk v1 g 0, rk v1 g 1, rk v1 g 2, rk v1 g 3, rk v1 g 4, rk v1 g 5, rk v1 g 6, rk v1 g 7, .int .i64 g, .int .i64 d, rk v2 g 0, rk v2 g 1, rk v2 g 2, rk v2 g 3, rk v2 g 4, rk v2 g 5, rk v2 g 6, rk v2 g 7] 54)) := hb57.alloc hb57.size _
  have hsz := hb57.size
  obtain ⟨hR1, hR2⟩ := HR.out
  obtain ⟨hl1, hl2⟩ := HL1.out
  have hB0 : Below w.heap.size w w7 := HB05.out.trans (hb57.mono HB05.out.size)
  refine ⟨_, rfl, hB0.size, ⟨by rw [blk_cell hN]; rfl, by rw [blk_cell hN]; rfl, by rw [blk_cell hN]; rfl, ?_, ?_, .inl HG.out, ⟨_, _, hN, rfl⟩⟩, hB0.alloc hB0.size _⟩
  · rw [← hs]
    refine PlAt.made (v := v1) hg8 hN (by simp) rfl rfl (fun k hk => by rcases eight hk with rfl | rfl | rfl | rfl | rfl | rfl | rfl | rfl <;> rfl) ⟨_, _, _, HV1.out⟩ (fun _ => ⟨⟨g1, 0, none⟩, 8, _, HV1.out, (hR1.full (by rw [maskL_length])).only (Only.of_below (fun _ => False) hb78 (fun k h1 h2 => by omega)) (fun _ _ _ h => h), fun k => ?_, by show g1 < w7.heap.size; omega⟩)
    have e : nI (i : Int) = s16 := by unfold nI; omega
    rw [e, drop_zeros]
    exact RowIs.none _ _ _ _
  · have e1 : bD (d : Int) = byt d := by unfold bD byt; simp
    have e2 : nD (d : Int) = d := by unfold nD; simp
    have hv2 := HV2.out
    rw [e1] at hv2 hR2
    rw [e2] at hR2
    refine PlAt.made (v := v2) hg8 hN (by simp) rfl rfl (fun k hk => by rcases eight hk with rfl | rfl | rfl | rfl | rfl | rfl | rfl | rfl <;> rfl) ⟨_, _, _, hv2⟩ (fun _ => ⟨⟨g2, 0, none⟩, byt d, _, hv2, (hR2.full (by rw [maskL_length])).only (Only.of_below (fun _ => False) hb78 (fun k h1 h2 => by omega)) (fun _ _ _ h => h), fun k => ?_, by show g2 < w7.heap.size; omega⟩)
    rw [drop_zeros]
    exact RowIs.none _ _ _ _
end Go.Proofs.Ytjhfkcngaknbdaa
