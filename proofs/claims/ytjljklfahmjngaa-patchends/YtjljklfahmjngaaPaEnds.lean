/-
  The statement PatchEnds.
-/
import Derived.Test.YtjljklfahmjngaaPaSee
import Derived.Test.YtjljklfahmjngaaPaAlive
import Derived.Deep.Cut
import Derived.Deep.CutRange
import Derived.Deep.CutBlock
namespace Go.Proofs.Ytjljklfahmjngaa
open Go Go.Proofs Go.RowKit Go.Shelf
attribute [local go_sem] Oper.semAt_some
theorem exec_load31 {ev : Operand → Value} {oi : Oper} {x : Operand} {b : Nat} {i a : Int} {ao : Option Addr} {n c : Nat} {W : World} (ho : oi.op = .load 31 x) (hx : ev x = .pointer (some ⟨b, 0, none⟩)) (h0 : W.cell? ⟨b, 0, none⟩ = some (.int .i64 i)) (h1 : W.cell? ⟨b, 1, none⟩ = some (.int .i64 a)) (h2 : W.cell? ⟨b, 2, none⟩ = some (.slice ao n c)) : (execOp ev oi).run Try.prog W = .ok (.value (paV i a (.slice ao n c))) W := by
  unfold execOp paV
  simp only [ho, hx]
  go_simp
theorem exec_make {ev : Operand → Value} {oi : Oper} {x y : Operand} {n : Nat} {W : World} (ho : oi.op = .makeSlice 22 x y) (hx : ev x = .int .i64 n) (hy : ev y = .int .i64 n) (hn : n ≤ 16777216) : (execOp ev oi).run Try.prog W = .ok (.value (.slice (some ⟨W.heap.size, 0, none⟩) n n)) (W.alloc (.cells (By (zeros n)).toArray 5)) := by
  unfold execOp
  simp only [ho, hx, hy, Sem.run_bind, make_run W n hn, Result.andThen_ok]
  rfl
/-- The first i of K bytes are 9. -/
def nine (K i : Nat) : List Int := List.replicate i 9 ++ zeros (K - i)
theorem nine_length (K i : Nat) (h : i ≤ K) : (nine K i).length = K := by simp [nine, zeros]; omega
theorem nine_set (K i : Nat) (h : i < K) : (nine K i).set i 9 = nine K (i + 1) := by
  unfold nine zeros
  rw [List.set_append_right _ _ (by simp), List.length_replicate, Nat.sub_self, show K - i = (K - (i + 1)) + 1 by omega, List.replicate_succ, List.set_cons_zero, List.replicate_succ' , List.append_assoc]
  rfl
theorem nine_at (K i : Nat) (h : i < K) : (By (nine K i))[i]? = some (.int .u8 0) := by
  unfold By nine zeros
  rw [List.getElem?_map, List.getElem?_append_right (by simp), List.length_replicate, Nat.sub_self, show K - i = (K - (i + 1)) + 1 by omega, List.replicate_succ]
  rfl
structure EnI (w1 : World) (a : Int) (K i : Nat) (W : World) : Prop where
  below : Below w1.heap.size w1 W
  row : RAt W w1.heap.size (nine K i)
  var : W.heap[w1.heap.size + 1]? = some (.cells #[.int .i64 0, .int .i64 a, .slice (some ⟨w1.heap.size, 0, none⟩) K K] 31 (0, 0))
theorem EnI.cells {w1 : World} {a : Int} {K i : Nat} {W : World} (h : EnI w1 a K i W) : W.cell? ⟨w1.heap.size + 1, 0, none⟩ = some (.int .i64 0) ∧ W.cell? ⟨w1.heap.size + 1, 1, none⟩ = some (.int .i64 a) ∧ W.cell? ⟨w1.heap.size + 1, 2, none⟩ = some (.slice (some ⟨w1.heap.size, 0, none⟩) K K) := by
  rw [blk_cell h.var, blk_cell h.var, blk_cell h.var]
  exact ⟨rfl, rfl, rfl⟩
theorem EnI.step {w1 : World} {a : Int} {K i : Nat} {W : World} (h : EnI w1 a K i W) (hi : i < K) : (W.cell? ⟨w1.heap.size, i, none⟩ = some (.int .u8 0) ∧ W.frozen? ⟨w1.heap.size, i, none⟩ = false) ∧ Hid (EnI w1 a K (i + 1) (W.setCell ⟨w1.heap.size, i, none⟩ (.int .u8 9))) := by
  refine ⟨⟨?_, blk_free h.row i⟩, Hid.mk ⟨h.below.setCell (p := ⟨w1.heap.size, i, none⟩) (Nat.le_refl _) _, ?_, ?_⟩⟩
  · rw [blk_cell h.row, List.getElem?_toArray]
    exact nine_at K i hi
  · unfold RAt
    rw [blk_set h.row, By_setArr, nine_set K i hi]
  · rw [Below.heap_setCell _ _ _ _ (by show _ ≠ w1.heap.size; omega)]
    exact h.var
/-- What the one change makes of noughts. -/
theorem ends_lay (N K : Nat) (a : Int) (i : Nat) (hi : i < N) : (layL (zeros N) a (List.replicate K 9)).getD i 0 = if a ≤ i ∧ (i : Int) < a + K then 9 else 0 := by
  rw [layL_get _ _ _ _ (by rw [zeros_length]; exact hi), List.length_replicate]
  by_cases h : a ≤ i ∧ (i : Int) < a + K
  · rw [if_pos h, if_pos h, List.getD_eq_getElem?_getD, List.getElem?_replicate, if_pos (by omega)]
    rfl
  · rw [if_neg h, if_neg h]
    unfold zeros
    rw [List.getD_eq_getElem?_getD, List.getElem?_replicate, if_pos hi]
    rfl
theorem ends_apply {w1 W W2 : World} {a : Int} {K N ga gb : Nat} (h : EnI w1 a K K W) (ha : I64 a) (hN : N ≤ 1000) (hK : K ≤ 1000) (hB : Below W.heap.size W W2) (hga : RAt W2 ga (zeros N)) (hgb : W2.heap[gb]? = some (.cells (paC 0 a (.slice (some ⟨w1.heap.size, 0, none⟩) K K)).toArray 31 (0, 0))) :
    Calls Try.prog 11 #[.slice (some ⟨ga, 0, none⟩) N N, .slice (some ⟨gb, 0, none⟩) 1 1, .slice none 0 0] W2 fun e w' => ∃ v, e = .returned v ∧ Hid ((w'.cell? ⟨w1.heap.size + 1, 0, none⟩ = some (.int .i64 0) ∧ w'.cell? ⟨w1.heap.size + 1, 1, none⟩ = some (.int .i64 a) ∧ w'.cell? ⟨w1.heap.size + 1, 2, none⟩ = some (.slice (some ⟨w1.heap.size, 0, none⟩) K K))) ∧
      ∃ ao c, v = .slice ao N c ∧ Hid (w'.ownsRow w1.heap.size 5 1 v N (By (layL (zeros N) a (List.replicate K 9))) ∧ Below w1.heap.size w1 w') := by
  have hBW := h.below.trans (hB.mono h.below.size)
  have hrow : RAt W2 w1.heap.size (List.replicate K 9) := by
    have e : nine K K = List.replicate K 9 := by simp [nine, zeros]
    rw [← e]
    exact h.row.below hB h.row.lt
  have hb1 : BAt W2 (some ⟨w1.heap.size, 0, none⟩) K (List.replicate K 9) := hrow.full (by simp)
  obtain ⟨p, hp⟩ : ∃ p : Pt, p = ⟨0, a, some ⟨w1.heap.size, 0, none⟩, K, K, List.replicate K 9⟩ := ⟨_, rfl⟩
  have hpc : PcAt W2 (some ⟨gb, 0, none⟩) 1 [p] := by
    refine ⟨rfl, fun _ => ⟨_, rfl, lt_of_block hgb, fun k hk => ?_⟩⟩
    obtain rfl : k = 0 := by omega
    rw [add_at, add_at, add_at, blk_cell hgb, blk_cell hgb, blk_cell hgb, hp]
    exact ⟨rfl, rfl, rfl⟩
  have hpn : PnAt W2 [p] := fun q hq => by
    rw [List.mem_singleton.1 hq, hp]
    exact ⟨hb1, (fun e => by cases e), ⟨by show _ ≤ (0 : Int); omega, by show (0 : Int) ≤ _; omega⟩, ha, (fun x hx => by rw [(List.mem_replicate.1 hx).2]; omega), Nat.le_refl _, by show K ≤ _; omega⟩
  refine (apply_any W2 _ N N (zeros N) (hga.full (zeros_length N)) (fun e => by cases e) (by omega) _ 1 1 [p] hpc hpn (by omega) none 0 0 [] ⟨rfl, fun h => by omega⟩ (by omega) (fun x hx => by cases hx)).mono ?_
  rintro e w' ⟨v, rfl, hown, hB4⟩
  have e1 : applyL (zeros N) (keptL [p] []) = layL (zeros N) a (List.replicate K 9) := by
    rw [apply_see, kept_see, keptS_nil, hp]
    rfl
  rw [e1] at hown
  have hs := hBW.size
  obtain ⟨ao, c, hv, -⟩ := owns_BAt hown
  have hvar : w'.heap[w1.heap.size + 1]? = some (.cells #[.int .i64 0, .int .i64 a, .slice (some ⟨w1.heap.size, 0, none⟩) K K] 31 (0, 0)) := by
    have hlt := lt_of_block h.var
    rw [hB4.block _ (by have := hB.size; omega), hB.block _ hlt]
    exact h.var
  refine ⟨v, rfl, Hid.mk ⟨by rw [blk_cell hvar]; rfl, by rw [blk_cell hvar]; rfl, by rw [blk_cell hvar]; rfl⟩, ao, c, hv, Hid.mk ⟨owns_base hown hs, hBW.trans (hB4.mono hs)⟩⟩
set_option maxRecDepth 100000 in
set_option maxHeartbeats 8000000 in
theorem ends_any (w : World) (n a k : Int) (ha : I64 a) : Calls Try.prog 7 #[.int .i64 n, .int .i64 a, .int .i64 k] w fun e w' => e = .returned (.bool true) ∧ Below w.heap.size w w' := by
  have HAL := Hid.mk (alive_any w)
  have H1 : Hid (∀ n a k : Int, n < 0 ∨ 200 < n ∨ k < 0 ∨ 50 < k → Calls Try.prog 7 #[.int .i64 n, .int .i64 a, .int .i64 k] w fun e w' => e = .returned (.bool true) ∧ Below w.heap.size w w') := Hid.mk (fun n a k h => by
    by_cases g0 : n < 0
    · clear h
      go_enter Try.func7, Try.ntmps7
      go_wp2_with (go_at_call 9; refine HAL.out.mono ?_; rintro e w1 ⟨rfl, hb1⟩; have HB1 := Hid.mk hb1; clear hb1 HAL)
      go_ret
      exact ⟨rfl, HB1.out⟩
    by_cases g1 : 200 < n
    · clear h
      go_enter Try.func7, Try.ntmps7
      go_wp2_with (go_at_call 9; refine HAL.out.mono ?_; rintro e w1 ⟨rfl, hb1⟩; have HB1 := Hid.mk hb1; clear hb1 HAL)
      go_ret
      exact ⟨rfl, HB1.out⟩
    by_cases g2 : k < 0
    · clear h
      go_enter Try.func7, Try.ntmps7
      go_wp2_with (go_at_call 9; refine HAL.out.mono ?_; rintro e w1 ⟨rfl, hb1⟩; have HB1 := Hid.mk hb1; clear hb1 HAL)
      go_ret
      exact ⟨rfl, HB1.out⟩
    have g3 : 50 < k := by omega
    clear h
    go_enter Try.func7, Try.ntmps7
    go_wp2_with (go_at_call 9; refine HAL.out.mono ?_; rintro e w1 ⟨rfl, hb1⟩; have HB1 := Hid.mk hb1; clear hb1 HAL)
    go_ret
    exact ⟨rfl, HB1.out⟩)
  by_cases hh : n < 0 ∨ 200 < n ∨ k < 0 ∨ 50 < k
  · exact H1.out n a k hh
  clear H1
  obtain ⟨N, rfl⟩ : ∃ N : Nat, n = N := ⟨n.toNat, by omega⟩
  obtain ⟨K, rfl⟩ : ∃ K : Nat, k = K := ⟨k.toNat, by omega⟩
  have HN : Hid (N ≤ 200 ∧ K ≤ 50) := Hid.mk (by omega)
  have g1 : ¬ (200 : Int) < (N : Int) := by omega
  have g3 : ¬ (50 : Int) < (K : Int) := by omega
  have HA := Hid.mk ha
  clear hh ha
  have hmk := fun W => make_run W K (by have := HN.out; omega)
  go_enter Try.func7, Try.ntmps7
  go_wp2_with (go_at_call 9; refine HAL.out.mono ?_; rintro e w1 ⟨rfl, hb1⟩; have HB1 := Hid.mk hb1; clear hb1 HAL)
  go_loopw [9] (fun iv wr => ∃ i : Nat, iv = .int .i64 i ∧ Hid (i ≤ K ∧ EnI w1 a K i wr)) (fun iv _ => K - (Go.RowKit.intOf iv).toNat)
  case atStart =>
    refine ⟨0, rfl, Hid.mk ⟨Nat.zero_le _, ((Below.refl _ w1).alloc (Nat.le_refl _) _).alloc (by simp) _, ?_, ?_⟩⟩
    · unfold RAt
      rw [Below.heap_alloc _ _ _ (by simp)]
      have e : nine K 0 = zeros K := by simp [nine]
      rw [e]
      exact blk_new w1 _
    · have := blk_new (w1.alloc (.cells (By (zeros K)).toArray 5)) (.cells #[.int .i64 0, .int .i64 a, .slice (some ⟨w1.heap.size, 0, none⟩) K K] 31)
      rw [World.size_alloc] at this
      exact this
  case round =>
    obtain ⟨i, rfl, HI⟩ := hrel
    clear hmk
    obtain ⟨c0, c1, c2⟩ := HI.out.2.cells
    by_cases hlt : i < K
    · have hlt' : (i : Int) < (K : Int) := by omega
      have u1 : IntKind.i64.wrap ((i : Int) + 1) = ((i + 1 : Nat) : Int) := by have := HN.out; rw [IntKind.wrap_i64]; omega
      obtain ⟨⟨d0, d1⟩, HX⟩ := HI.out.2.step hlt
      have HLT := Hid.mk hlt
      clear HI hlt
      go_wp2
      go_roundw
      case rel => exact ⟨i + 1, rfl, Hid.mk ⟨HLT.out, HX.out⟩⟩
      case measure => (have := HLT.out; simp [Go.RowKit.intOf]; omega)
    · obtain rfl : i = K := by have := HI.out.1; omega
      have hlt' : ¬ (i : Int) < (i : Int) := by omega
      have hE := HI.out.2
      have hlv := lt_of_block hE.var
      have HSX : Hid (∀ o : Obj, ((wr.drew.alloc o).cell? ⟨w1.heap.size + 1, 0, none⟩ = some (.int .i64 0) ∧ (wr.drew.alloc o).cell? ⟨w1.heap.size + 1, 1, none⟩ = some (.int .i64 a) ∧ (wr.drew.alloc o).cell? ⟨w1.heap.size + 1, 2, none⟩ = some (.slice (some ⟨w1.heap.size, 0, none⟩) i i)) ∧ ∀ o2 : Obj, (((wr.drew.alloc o).alloc o2).cell? ⟨w1.heap.size + 1, 0, none⟩ = some (.int .i64 0) ∧ ((wr.drew.alloc o).alloc o2).cell? ⟨w1.heap.size + 1, 1, none⟩ = some (.int .i64 a) ∧ ((wr.drew.alloc o).alloc o2).cell? ⟨w1.heap.size + 1, 2, none⟩ = some (.slice (some ⟨w1.heap.size, 0, none⟩) i i))) := Hid.mk (fun o => by
        have e1 : (wr.drew.alloc o).heap[w1.heap.size + 1]? = wr.heap[w1.heap.size + 1]? := Below.heap_alloc wr.drew o _ hlv
        refine ⟨?_, fun o2 => ?_⟩
        · rw [blk_cell (e1.trans hE.var), blk_cell (e1.trans hE.var), blk_cell (e1.trans hE.var)]
          exact ⟨rfl, rfl, rfl⟩
        · have e2 : ((wr.drew.alloc o).alloc o2).heap[w1.heap.size + 1]? = wr.heap[w1.heap.size + 1]? := (Below.heap_alloc _ o2 _ (by have : wr.drew.heap.size = wr.heap.size := rfl; simp; omega)).trans e1
          rw [blk_cell (e2.trans hE.var), blk_cell (e2.trans hE.var), blk_cell (e2.trans hE.var)]
          exact ⟨rfl, rfl, rfl⟩)
      have HN2 : Hid (N ≤ 16777216) := Hid.mk (by have := HN.out; omega)
      have HAP := Hid.mk (And.intro
        (ends_apply (W2 := (wr.drew.alloc (.cells (By (zeros N)).toArray 5)).alloc (.cells (paC 0 a (.slice (some ⟨w1.heap.size, 0, none⟩) i i)).toArray 31)) (N := N) (ga := wr.drew.heap.size) (gb := (wr.drew.alloc (.cells (By (zeros N)).toArray 5)).heap.size) hE HA.out (by have := HN.out; omega) (by have := HN.out; omega)
          (((Below.refl _ wr).drew.alloc (Nat.le_refl _) _).alloc (by simp) _) (by unfold RAt; rw [Below.heap_alloc _ _ _ (by simp)]; exact blk_new wr.drew _) (blk_new _ _))
        (ends_apply (W2 := (wr.drew.alloc (.cells (paC 0 a (.slice (some ⟨w1.heap.size, 0, none⟩) i i)).toArray 31)).alloc (.cells (By (zeros N)).toArray 5)) (N := N) (ga := (wr.drew.alloc (.cells (paC 0 a (.slice (some ⟨w1.heap.size, 0, none⟩) i i)).toArray 31)).heap.size) (gb := wr.drew.heap.size) hE HA.out (by have := HN.out; omega) (by have := HN.out; omega)
          (((Below.refl _ wr).drew.alloc (Nat.le_refl _) _).alloc (by simp) _) (blk_new _ _) (by rw [Below.heap_alloc _ _ _ (by simp)]; exact blk_new wr.drew _)))
      have HS0 : Hid (wr.drew.cell? ⟨w1.heap.size + 1, 0, none⟩ = some (.int .i64 0) ∧ wr.drew.cell? ⟨w1.heap.size + 1, 1, none⟩ = some (.int .i64 a) ∧ wr.drew.cell? ⟨w1.heap.size + 1, 2, none⟩ = some (.slice (some ⟨w1.heap.size, 0, none⟩) i i)) := Hid.mk ⟨c0, c1, c2⟩
      clear hE hlv HI
      go_upto_region 9 with fail
      go_cut [10] from 46 to 50 (fun v W => ∃ ao c, v = .slice ao N c ∧ Hid (W.ownsRow w1.heap.size 5 1 v N (By (layL (zeros N) a (List.replicate i 9))) ∧ Below w1.heap.size w1 W))
      case first =>
        refine wp_region_held_drew (S := fun W => W.cell? ⟨w1.heap.size + 1, 0, none⟩ = some (.int .i64 0) ∧ W.cell? ⟨w1.heap.size + 1, 1, none⟩ = some (.int .i64 a) ∧ W.cell? ⟨w1.heap.size + 1, 2, none⟩ = some (.slice (some ⟨w1.heap.size, 0, none⟩) i i)) (by kernel_rfl) HS0.out (fun hH => ?_)
        refine takeH 0 46 (.int .i64 N) rfl (by kernel_rfl) (by kernel_rfl) (by kernel_rfl) (by kernel_rfl) (fun _ _ _ h => h) (by kernel_rfl) (fun w hw => by kernel_rfl) hH ?_
        simp only [List.setIfInBounds_toArray, List.set_cons_zero, List.set_cons_succ]
        refine takeH 2 48 (paV 0 a (.slice (some ⟨w1.heap.size, 0, none⟩) i i)) rfl (by kernel_rfl) (by kernel_rfl) (by kernel_rfl) (by kernel_rfl) (fun _ _ _ h => h) (by kernel_rfl) (fun w hw => by obtain ⟨hw, hw2, hw3⟩ := hw; exact exec_load31 (x := .tmp 8) (by kernel_rfl) (by kernel_rfl) hw hw2 hw3) hH ?_
        simp only [List.setIfInBounds_toArray, List.set_cons_zero, List.set_cons_succ]
        refine stepH_two 1 3 (by kernel_rfl) ?_ ?_
        · refine opH_run 1 47 (.slice (some ⟨wr.drew.heap.size, 0, none⟩) N N) (wr.drew.alloc (.cells (By (zeros N)).toArray 5)) rfl (by kernel_rfl) (by kernel_rfl) (exec_make (x := .tmp 46) (y := .tmp 46) (by kernel_rfl) (by kernel_rfl) (by kernel_rfl) HN2.out) (HSX.out _).1 ?_
          simp only [List.setIfInBounds_toArray, List.set_cons_zero, List.set_cons_succ]
          refine stepH_run 3 49 (.slice (some ⟨(wr.drew.alloc (.cells (By (zeros N)).toArray 5)).heap.size, 0, none⟩) 1 1) ((wr.drew.alloc (.cells (By (zeros N)).toArray 5)).alloc (.cells (paC 0 a (.slice (some ⟨w1.heap.size, 0, none⟩) i i)).toArray 31)) rfl (by kernel_rfl) (by kernel_rfl) (by kernel_rfl) (exec_one31 (x := .tmp 48) (by kernel_rfl) (by kernel_rfl) ⟨_, _, _, rfl⟩) ((HSX.out _).2 _) ?_
          simp only [List.setIfInBounds_toArray, List.set_cons_zero, List.set_cons_succ]
          refine stepH_call 4 50 rfl (by kernel_rfl) (by kernel_rfl) (by kernel_rfl) 11 #[.tmp 47, .tmp 49, .const (.slice none 0 0)] #[22, 23, 24] (by kernel_rfl) (enters_of Try.func11 (by kernel_rfl) rfl) #[.slice (some ⟨wr.drew.heap.size, 0, none⟩) N N, .slice (some ⟨(wr.drew.alloc (.cells (By (zeros N)).toArray 5)).heap.size, 0, none⟩) 1 1, .slice none 0 0] (by kernel_rfl) (HAP.out.1) ?_
          rintro e w4 ⟨v4, rfl, HS4, ao4, c4, rfl, H4⟩
          refine ⟨_, rfl, HS4.out, ?_⟩
          simp only [List.setIfInBounds_toArray, List.set_cons_zero, List.set_cons_succ]
          refine takeH 5 10 (.slice ao4 N c4) rfl (by kernel_rfl) (by kernel_rfl) (by kernel_rfl) (by kernel_rfl) (fun _ _ _ h => h) (by kernel_rfl) (fun w hw => by kernel_rfl) HS4.out ?_
          simp only [List.setIfInBounds_toArray, List.set_cons_zero, List.set_cons_succ]
          refine wpAnyH_done (by kernel_rfl) ?_ _
          go_wp2
          go_meet
          case rel => exact ⟨_, _, rfl, H4⟩
        · refine opH_run 3 49 (.slice (some ⟨wr.drew.heap.size, 0, none⟩) 1 1) (wr.drew.alloc (.cells (paC 0 a (.slice (some ⟨w1.heap.size, 0, none⟩) i i)).toArray 31)) rfl (by kernel_rfl) (by kernel_rfl) (exec_one31 (x := .tmp 48) (by kernel_rfl) (by kernel_rfl) ⟨_, _, _, rfl⟩) (HSX.out _).1 ?_
          simp only [List.setIfInBounds_toArray, List.set_cons_zero, List.set_cons_succ]
          refine stepH_run 1 47 (.slice (some ⟨(wr.drew.alloc (.cells (paC 0 a (.slice (some ⟨w1.heap.size, 0, none⟩) i i)).toArray 31)).heap.size, 0, none⟩) N N) ((wr.drew.alloc (.cells (paC 0 a (.slice (some ⟨w1.heap.size, 0, none⟩) i i)).toArray 31)).alloc (.cells (By (zeros N)).toArray 5)) rfl (by kernel_rfl) (by kernel_rfl) (by kernel_rfl) (exec_make (x := .tmp 46) (y := .tmp 46) (by kernel_rfl) (by kernel_rfl) (by kernel_rfl) HN2.out) ((HSX.out _).2 _) ?_
          simp only [List.setIfInBounds_toArray, List.set_cons_zero, List.set_cons_succ]
          refine stepH_call 4 50 rfl (by kernel_rfl) (by kernel_rfl) (by kernel_rfl) 11 #[.tmp 47, .tmp 49, .const (.slice none 0 0)] #[22, 23, 24] (by kernel_rfl) (enters_of Try.func11 (by kernel_rfl) rfl) #[.slice (some ⟨(wr.drew.alloc (.cells (paC 0 a (.slice (some ⟨w1.heap.size, 0, none⟩) i i)).toArray 31)).heap.size, 0, none⟩) N N, .slice (some ⟨wr.drew.heap.size, 0, none⟩) 1 1, .slice none 0 0] (by kernel_rfl) (HAP.out.2) ?_
          rintro e w4 ⟨v4, rfl, HS4, ao4, c4, rfl, H4⟩
          refine ⟨_, rfl, HS4.out, ?_⟩
          simp only [List.setIfInBounds_toArray, List.set_cons_zero, List.set_cons_succ]
          refine takeH 5 10 (.slice ao4 N c4) rfl (by kernel_rfl) (by kernel_rfl) (by kernel_rfl) (by kernel_rfl) (fun _ _ _ h => h) (by kernel_rfl) (fun w hw => by kernel_rfl) HS4.out ?_
          simp only [List.setIfInBounds_toArray, List.set_cons_zero, List.set_cons_succ]
          refine wpAnyH_done (by kernel_rfl) ?_ _
          go_wp2
          go_meet
          case rel => exact ⟨_, _, rfl, H4⟩
      case rest =>
        obtain ⟨ao, c, rfl, HROW⟩ := hcut
        clear HAP HSX HS0 HN2 c0 c1 c2
        go_wp2
        go_loop [11, 12] (fun iv _ => ∃ j : Nat, iv = .int .i64 j ∧ Hid (j ≤ N)) (fun iv _ => N - (Go.RowKit.intOf iv).toNat)
        case atStart => exact ⟨0, rfl, Hid.mk (Nat.zero_le _)⟩
        case round =>
          obtain ⟨j, rfl, HJ⟩ := hrel
          by_cases hjN : j < N
          · have hjN' : (j : Int) < (N : Int) := by omega
            have u1 : IntKind.i64.wrap ((j : Int) + 1) = ((j + 1 : Nat) : Int) := by have := HN.out; rw [IntKind.wrap_i64]; omega
            obtain ⟨ao', c', e, hbat, -⟩ := owns_BAt HROW.out.1
            cases e
            obtain ⟨p, rfl, hcp⟩ := hbat.at j hjN
            rw [ends_lay N i a j hjN] at hcp
            obtain ⟨x, hx⟩ : ∃ x : Int, x = if a ≤ (j : Int) ∧ (j : Int) < a + i then 9 else 0 := ⟨_, rfl⟩
            rw [← hx] at hcp
            have HJN := Hid.mk hjN
            clear hbat HJ hjN
            by_cases q1 : a ≤ (j : Int)
            · have u2 : 0 ≤ a → IntKind.i64.wrap ((j : Int) - a) = (j : Int) - a := fun h => by have := HN.out; have := HJN.out; rw [IntKind.wrap_i64]; omega
              have u3 : -1000 < a → IntKind.i64.wrap ((j : Int) - a) = (j : Int) - a := fun h => by have := HN.out; have := HJN.out; rw [IntKind.wrap_i64]; omega
              by_cases q2 : 0 ≤ a
              · have u4 := u2 q2
                have q2' : ¬ a < 0 := by omega
                clear u2 u3
                by_cases q3 : (j : Int) - a < (i : Int)
                · have hv : x = 9 := by rw [hx]; rw [if_pos (by omega)]
                  subst hv
                  clear hx
                  go_wp2
                  go_round
                  case rel => exact ⟨j + 1, rfl, Hid.mk HJN.out⟩
                  case measure => (have := HJN.out; simp [Go.RowKit.intOf]; omega)
                · have hv : x = 0 := by rw [hx]; rw [if_neg (by omega)]
                  subst hv
                  clear hx
                  go_wp2
                  go_round
                  case rel => exact ⟨j + 1, rfl, Hid.mk HJN.out⟩
                  case measure => (have := HJN.out; simp [Go.RowKit.intOf]; omega)
              · have q2' : a < 0 := by omega
                by_cases q4 : -1000 < a
                · have u4 := u3 q4
                  clear u2 u3
                  by_cases q3 : (j : Int) - a < (i : Int)
                  · have hv : x = 9 := by rw [hx]; rw [if_pos (by omega)]
                    subst hv
                    clear hx
                    go_wp2
                    go_round
                    case rel => exact ⟨j + 1, rfl, Hid.mk HJN.out⟩
                    case measure => (have := HJN.out; simp [Go.RowKit.intOf]; omega)
                  · have hv : x = 0 := by rw [hx]; rw [if_neg (by omega)]
                    subst hv
                    clear hx
                    go_wp2
                    go_round
                    case rel => exact ⟨j + 1, rfl, Hid.mk HJN.out⟩
                    case measure => (have := HJN.out; simp [Go.RowKit.intOf]; omega)
                · clear u2 u3
                  have hv : x = 0 := by rw [hx]; rw [if_neg (by omega)]
                  subst hv
                  clear hx
                  go_wp2
                  go_round
                  case rel => exact ⟨j + 1, rfl, Hid.mk HJN.out⟩
                  case measure => (have := HJN.out; simp [Go.RowKit.intOf]; omega)
            · have hv : x = 0 := by rw [hx]; rw [if_neg (by omega)]
              subst hv
              clear hx
              go_wp2
              go_round
              case rel => exact ⟨j + 1, rfl, Hid.mk HJN.out⟩
              case measure => (have := HJN.out; simp [Go.RowKit.intOf]; omega)
          · have hjN' : ¬ (j : Int) < (N : Int) := by omega
            clear HJ
            go_wp2
            go_ret
            exact ⟨rfl, HB1.out.trans (HROW.out.2.mono HB1.out.size)⟩
end Go.Proofs.Ytjljklfahmjngaa
