/-
  Rows of bytes in memory; the document's own Get and With, for every row and number.
-/
import Derived.Test.YtejnmpnioeamhaaGreatLayB
import Derived.BigQuiet
import Derived.Deep.QuietTactic
import Derived.Deep.RegionWith
import Derived.Lib.SlBytesConst
import Derived.Lib.BufferWrite
import Derived.Deep.Cut
import Derived.Deep.CutRange
import Derived.Deep.CutBlock
namespace Go.Proofs.YtejnmpnioeamhaaGreat
open Go Go.Proofs Go.RowKit
namespace Sup
set_option maxRecDepth 100000 in
theorem refget_yes (w : World) (a : Addr) (n c q : Nat) (x : Int) (hq : q / 8 < n) (hq2 : q < 9223372036854775808) (hx : 0 ≤ x ∧ x ≤ 255) (hc : w.cell? (a.add (q / 8)) = some (.int .u8 x)) :
    Calls Tryz.prog 50 #[.slice (some a) n c, .int .i64 q] w fun e w' => e = .returned (.bool (bitB x (q % 8))) ∧ w' = w := by
  have hs := u8_shr x (q % 8) (by omega) hx
  go_enter Tryz.func50, Tryz.ntmps50
  go_wp2
  go_ret
  exact ⟨rfl, rfl⟩
set_option maxRecDepth 100000 in
theorem refget_no (w : World) (ao : Option Addr) (n c : Nat) (i : Int) (hi : I64 i) (hno : hasI n i = false) :
    Calls Tryz.prog 50 #[.slice ao n c, .int .i64 i] w fun e w' => e = .returned (.bool false) ∧ w' = w := by
  obtain ⟨hi1, hi2⟩ := hi
  by_cases h0 : 0 ≤ i
  · obtain ⟨q, rfl⟩ : ∃ q : Nat, i = q := ⟨i.toNat, by omega⟩
    rw [hasI_nat] at hno
    simp at hno
    go_enter Tryz.func50, Tryz.ntmps50
    go_wp2
    go_ret
    exact ⟨rfl, rfl⟩
  · clear hno
    go_enter Tryz.func50, Tryz.ntmps50
    go_wp2
    go_ret
    exact ⟨rfl, rfl⟩
/-! rows of bytes -/
set_option maxRecDepth 100000 in
theorem refget_any (w : World) (ao : Option Addr) (n c : Nat) (xs : List Int) (h : BAt w ao n xs) (hx : ∀ x ∈ xs, 0 ≤ x ∧ x ≤ 255) (i : Int) (hi : I64 i) :
    Calls Tryz.prog 50 #[.slice ao n c, .int .i64 i] w fun e w' => e = .returned (.bool (getI xs i)) ∧ w' = w := by
  cases hh : hasI n i with
  | false =>
    rw [getI_no xs i (by rw [h.1]; exact hh)]
    exact refget_no w ao n c i hi hh
  | true =>
    have hh' := hh
    simp [hasI] at hh'
    obtain ⟨hi1, hi2⟩ := hi
    obtain ⟨q, rfl⟩ : ∃ q : Nat, i = q := ⟨i.toNat, by omega⟩
    simp only [Int.toNat_natCast] at hh'
    obtain ⟨a, rfl, hc⟩ := h.at (q / 8) hh'.2
    rw [getI_nat]
    exact refget_yes w a n c q _ hh'.2 (by omega) (getD_bound xs hx _) hc
set_option maxRecDepth 100000 in
set_option maxHeartbeats 1000000 in
theorem refwith_yes (w : World) (a : Addr) (n c q : Nat) (on : Bool) (xs : List Int) (h : BAt w (some a) n xs) (hbig : n ≤ 140737488355328) (hq : q / 8 < n) :
    Calls Tryz.prog 54 #[.slice (some a) n c, .int .i64 q, .bool on] w fun e w' => ∃ v', e = .returned v' ∧ w'.ownsRow w.heap.size 5 1 v' n (By (xs.set (q / 8) (setB (xs.getD (q / 8) 0) q on))) ∧ Below w.heap.size w w' := by
  have hq2 : q < 9223372036854775808 := by omega
  have hq3 : (q : Int) / 8 < n := by omega
  obtain ⟨v', w', hrun, hown, hB⟩ := append_nil_below w (some a) n c xs h hbig (by simp)
  obtain ⟨g, cap, rfl, hg, -⟩ := owns_bytes hown (by rintro rfl; rcases hown.2 with h2 | ⟨_, _, _, h2, _⟩; omega; cases h2)
  obtain ⟨hc1, hc2, -⟩ := owns_cell hown (q / 8) hq
  obtain ⟨ga, hga⟩ : ∃ ga : Addr, ga = ⟨g, 0, none⟩ := ⟨_, rfl⟩
  have hadd : ga.add (q / 8) = ⟨g, q / 8, none⟩ := by rw [hga, add_at, Nat.zero_add]
  rw [← hadd] at hc1 hc2
  rw [← hga] at hown hrun
  obtain ⟨x, hxe⟩ : ∃ x, x = xs.getD (q / 8) 0 := ⟨_, rfl⟩
  rw [← hxe] at hc1
  have hw8 : IntKind.i64.wrap ((q : Int) / 8) = (q : Int) / 8 := by rw [IntKind.wrap_i64]; omega
  have h08 : (0 : Int) ≤ (q : Int) / 8 := by omega
  have ht8 : ((q : Int) / 8).toNat = q / 8 := by omega
  have hm : (2 : Int) ^ (q % 8) % 256 = maskN q := by
    have := maskN_bound q
    have e : (2 : Int) ^ (q % 8) = maskN q := by simp [maskN]
    rw [e]
    omega
  have fin1 : ∀ W : World, W.heap = (w'.setCell (ga.add (q / 8)) (.int .u8 (bits BinOp.andNot IntKind.u8 x (maskN q)))).heap → Below w.heap.size w' W → W.ownsRow w.heap.size 5 1 (.slice (some ga) n cap) n (By (xs.set (q / 8) (setB (xs.getD (q / 8) 0) q false))) ∧ Below w.heap.size w W := by
    intro W hW hBW
    refine ⟨?_, hB.trans hBW⟩
    subst hga
    have h2 := owns_set hown (q / 8) (bits BinOp.andNot IntKind.u8 x (maskN q))
    rw [← hadd] at h2
    rw [← hxe]
    exact owns_at h2 (fun k _ => by rw [hW])
  have fin2 : ∀ W : World, W.heap = ((w'.setCell (ga.add (q / 8)) (.int .u8 (bits BinOp.andNot IntKind.u8 x (maskN q)))).setCell (ga.add (q / 8)) (.int .u8 (bits BinOp.or IntKind.u8 (bits BinOp.andNot IntKind.u8 x (maskN q)) (maskN q)))).heap → Below w.heap.size w' W → W.ownsRow w.heap.size 5 1 (.slice (some ga) n cap) n (By (xs.set (q / 8) (setB (xs.getD (q / 8) 0) q true))) ∧ Below w.heap.size w W := by
    intro W hW hBW
    refine ⟨?_, hB.trans hBW⟩
    subst hga
    have h2 := owns_set (owns_set hown (q / 8) (bits BinOp.andNot IntKind.u8 x (maskN q))) (q / 8) (bits BinOp.or IntKind.u8 (bits BinOp.andNot IntKind.u8 x (maskN q)) (maskN q))
    rw [← hadd, List.set_set] at h2
    rw [← hxe]
    exact owns_at h2 (fun k _ => by rw [hW])
  have hgb : w.heap.size ≤ (ga.add (q / 8)).block := by rw [hadd]; exact hg
  have F1 := Hid.mk fin1
  have F2 := Hid.mk fin2
  have HGB := Hid.mk hgb
  have HR := Hid.mk hrun
  clear fin1 fin2 hgb hrun hown hB hga hadd hxe h hg
  cases on
  · go_enter Tryz.func54, Tryz.ntmps54
    go_wp2_with (at_builtin; refine wpList_append_known rfl _ _ 26 rfl (.slice none 0 0) (.slice (some a) n c) _ _ rfl rfl HR.out ?_)
    go_ret
    exact ⟨_, rfl, F1.out _ rfl ((Below.refl _ w').setCell HGB.out _)⟩
  · go_enter Tryz.func54, Tryz.ntmps54
    go_wp2_with (at_builtin; refine wpList_append_known rfl _ _ 26 rfl (.slice none 0 0) (.slice (some a) n c) _ _ rfl rfl HR.out ?_)
    go_ret
    exact ⟨_, rfl, F2.out _ rfl (((Below.refl _ w').setCell HGB.out _).setCell HGB.out _)⟩
set_option maxRecDepth 100000 in
set_option maxHeartbeats 1000000 in
theorem refwith_no (w : World) (ao : Option Addr) (n c : Nat) (i : Int) (hi : I64 i) (on : Bool) (xs : List Int) (h : BAt w ao n xs) (hnone : ao = none → n = 0 ∧ c = 0) (hbig : n ≤ 140737488355328) (hno : hasI n i = false) :
    Calls Tryz.prog 54 #[.slice ao n c, .int .i64 i, .bool on] w fun e w' => ∃ v', e = .returned v' ∧ w'.ownsRow w.heap.size 5 1 v' n (By xs) ∧ Below w.heap.size w w' := by
  obtain ⟨v', w', hrun, hown, hB⟩ := append_nil_below w ao n c xs h hbig hnone
  have HR := Hid.mk hrun
  have HO := Hid.mk hown
  have HB := Hid.mk hB
  obtain ⟨hi1, hi2⟩ := hi
  clear hrun hown hB h hnone
  by_cases h0 : 0 ≤ i
  · obtain ⟨q, rfl⟩ : ∃ q : Nat, i = q := ⟨i.toNat, by omega⟩
    rw [hasI_nat] at hno
    simp at hno
    have hno2 : (n : Int) ≤ (q : Int) / 8 := by omega
    go_enter Tryz.func54, Tryz.ntmps54
    go_wp2_with (at_builtin; refine wpList_append_known rfl _ _ 26 rfl (.slice none 0 0) (.slice ao n c) _ _ rfl rfl HR.out ?_)
    go_ret
    exact ⟨_, rfl, HO.out, HB.out⟩
  · clear hno
    go_enter Tryz.func54, Tryz.ntmps54
    go_wp2_with (at_builtin; refine wpList_append_known rfl _ _ 26 rfl (.slice none 0 0) (.slice ao n c) _ _ rfl rfl HR.out ?_)
    go_ret
    exact ⟨_, rfl, HO.out, HB.out⟩
set_option maxRecDepth 100000 in
theorem refwith_any (w : World) (ao : Option Addr) (n c : Nat) (i : Int) (hi : I64 i) (on : Bool) (xs : List Int) (h : BAt w ao n xs) (hnone : ao = none → n = 0 ∧ c = 0) (hbig : n ≤ 140737488355328) :
    Calls Tryz.prog 54 #[.slice ao n c, .int .i64 i, .bool on] w fun e w' => ∃ v', e = .returned v' ∧ w'.ownsRow w.heap.size 5 1 v' n (By (withI xs i on)) ∧ Below w.heap.size w w' := by
  cases hh : hasI n i with
  | false =>
    rw [show withI xs i on = xs from by unfold withI; rw [h.1, hh]; simp]
    exact refwith_no w ao n c i hi on xs h hnone hbig hh
  | true =>
    have hh' := hh
    simp [hasI] at hh'
    obtain ⟨hi1, hi2⟩ := hi
    obtain ⟨q, rfl⟩ : ∃ q : Nat, i = q := ⟨i.toNat, by omega⟩
    simp only [Int.toNat_natCast] at hh'
    obtain ⟨a, rfl, _⟩ := h.at (q / 8) hh'.2
    rw [show withI xs (q : Int) on = xs.set (q / 8) (setB (xs.getD (q / 8) 0) q on) from by unfold withI; rw [h.1, if_pos hh]; rfl]
    exact refwith_yes w a n c q on xs h hbig hh'.2
end Sup
end Go.Proofs.YtejnmpnioeamhaaGreat
namespace Go.Proofs.YtejnmpnioeamhaaGreat
open Go Go.Proofs Go.RowKit Go.Shelf
namespace Sup
/-- sum: the sum of a row. -/
def sumL : List Int → Int
  | [] => 0
  | x :: r => x + sumL r
theorem sumL_append (a b : List Int) : sumL (a ++ b) = sumL a + sumL b := by
  induction a with
  | nil => simp [sumL]
  | cons x r ih => simp [sumL, ih]; omega
theorem sumL_bound (xs : List Int) (h : ∀ x ∈ xs, 0 ≤ x ∧ x ≤ 255) : 0 ≤ sumL xs ∧ sumL xs ≤ 255 * xs.length := by
  induction xs with
  | nil => simp [sumL]
  | cons x r ih =>
    have h1 := h x (by simp)
    have h2 := ih (fun y hy => h y (by simp [hy]))
    simp [sumL]
    omega
theorem sumL_take (xs : List Int) (k : Nat) (h : k < xs.length) : sumL (xs.take (k + 1)) = sumL (xs.take k) + xs.getD k 0 := by
  rw [take_snoc xs k h, sumL_append]
  simp [sumL]
set_option maxRecDepth 100000 in
set_option maxHeartbeats 400000 in
theorem sum_any (w : World) (a : Addr) (n c : Nat) (xs : List Int) (h : BAt w (some a) n xs) (hx : ∀ x ∈ xs, 0 ≤ x ∧ x ≤ 255) (hn : n ≤ 1024) :
    Calls Tryz.prog 62 #[.slice (some a) n c] w fun e w' => e = .returned (.int .i64 (sumL xs)) ∧ w' = w := by
  have HH := Hid.mk h
  have HX := Hid.mk hx
  have hl := h.1
  have HL := Hid.mk hl
  clear h hx hl
  go_enter Tryz.func62, Tryz.ntmps62
  go_wp2
  go_loop [3, 8] (fun s i => ∃ k : Nat, k ≤ n ∧ i = .int .i64 k ∧ s = .int .i64 (sumL (xs.take k))) (fun _ i => n - (intOf i).toNat)
  case atStart => exact ⟨0, by omega, rfl, rfl⟩
  case round =>
    obtain ⟨k, hk, rfl, rfl⟩ := hrel
    by_cases hlt : k < n
    · obtain ⟨a', e, hc⟩ := HH.out.at k hlt
      cases e
      have hs := sumL_take xs k (by rw [HL.out]; exact hlt)
      have hb := sumL_bound (xs.take k) (fun x hx => HX.out x (List.mem_of_mem_take hx))
      have hbb := getD_bound xs HX.out k
      have hlen : (xs.take k).length ≤ 1024 := by have := HL.out; simp; omega
      generalize xs.getD k 0 = x at *
      generalize sumL (xs.take k) = y at *
      have hwr : IntKind.i64.wrap (y + x) = y + x := by rw [IntKind.wrap_i64]; omega
      have HS := Hid.mk hs
      clear hlen hs
      go_wp2
      go_round
      case rel => exact ⟨k + 1, by omega, by go_num, by rw [HS.out]⟩
      case measure => simp [intOf]; omega
    · have hge : (n : Int) ≤ k := by omega
      go_wp2
      go_ret
      refine ⟨?_, rfl⟩
      rw [List.take_of_length_le (by rw [HL.out]; omega)]
      rfl
set_option maxRecDepth 100000 in
/-- A row of ints that was built just now. -/
theorem lat_newi (W : World) (xs : List Int) : LAt (W.alloc (.cells (Iy xs).toArray 3)) (some ⟨W.heap.size, 0, none⟩) xs.length xs := by
  refine ⟨rfl, fun _ => ⟨_, rfl, by simp, fun i hi => ?_⟩⟩
  rw [add_at, blk_cell (blk_new W _), Nat.zero_add]
  simpa using Iy_get xs i hi
end Sup
end Go.Proofs.YtejnmpnioeamhaaGreat
namespace Go.Proofs.YtejnmpnioeamhaaGreat
open Go Go.Proofs Go.RowKit Go.Shelf
namespace Sup
set_option maxRecDepth 100000 in
set_option maxHeartbeats 1000000 in
theorem rnum_any (w : World) (a : Addr) (n c : Nat) (at_ : Nat) (xs : List Int) (h : BAt w (some a) n xs) (hx : ∀ x ∈ xs, 0 ≤ x ∧ x ≤ 255) (hn : at_ + 4 ≤ n) (hn2 : n ≤ 1024) :
    Calls Tryz.prog 74 #[.slice (some a) n c, .int .i64 at_, .int .i64 4] w fun e w' => e = .returned (.int .i64 (numL ((xs.drop at_).take 4))) ∧ w' = w := by
  have HH := Hid.mk h
  have HX := Hid.mk hx
  have HL := Hid.mk h.1
  obtain ⟨ys, hys⟩ : ∃ ys, ys = (xs.drop at_).take 4 := ⟨_, rfl⟩
  have hyl : ys.length = 4 := by rw [hys]; simp; have := h.1; omega
  have hyx : ∀ x ∈ ys, 0 ≤ x ∧ x ≤ 255 := by rw [hys]; exact fun x hx' => hx x (List.mem_of_mem_drop (List.mem_of_mem_take hx'))
  have hyg : ∀ k, k < 4 → ys.getD k 0 = xs.getD (at_ + k) 0 := by
    intro k hk
    rw [hys]
    simp [List.getD, hk]
  rw [← hys]
  have HY := Hid.mk hyl
  have HYX := Hid.mk hyx
  have HYG := Hid.mk hyg
  clear h hx hys hyl hyx hyg
  go_enter Tryz.func74, Tryz.ntmps74
  go_wp2
  go_loop [7, 8] (fun r i => ∃ k : Nat, k ≤ 4 ∧ i = .int .i64 ((k : Int) - 1) ∧ r = .int .i64 (numL (ys.drop k))) (fun _ i => ((intOf i) + 1).toNat)
  case atStart => exact ⟨4, by omega, rfl, by rw [List.drop_of_length_le (by rw [HY.out]; omega)]; rfl⟩
  case round =>
    obtain ⟨k, hk, rfl, rfl⟩ := hrel
    by_cases hlt : 0 < k
    · obtain ⟨j, rfl⟩ : ∃ j, k = j + 1 := ⟨k - 1, by omega⟩
      obtain ⟨a', e, hc⟩ := HH.out.at (at_ + j) (by omega)
      cases e
      rw [← HYG.out j (by omega)] at hc
      have hb := getD_bound ys HYX.out j
      have hs := numL_drop ys j (by rw [HY.out]; omega)
      have hy := numL_bound (ys.drop (j + 1)) (fun x hx => HYX.out x (List.mem_of_mem_drop hx))
      have hp : (256 : Int) ^ (ys.drop (j + 1)).length ≤ 16777216 := by
        rw [List.length_drop, HY.out]
        exact pow_small (4 - (j + 1)) (by omega)
      generalize ys.getD j 0 = x at *
      generalize numL (ys.drop (j + 1)) = y at *
      have hj1 : ((j + 1 : Nat) : Int) - 1 = (j : Int) := by omega
      have hy3 : y < 16777216 := by omega
      obtain ⟨hy0, -⟩ := hy
      have hw1 : IntKind.i64.wrap (y * 256) = y * 256 := by rw [IntKind.wrap_i64]; omega
      have HJ := Hid.mk (join64 y x hy0 hy3 hb)
      have HS := Hid.mk hs
      rw [hj1]
      clear hs hp hj1
      go_wp2
      go_round
      case rel => exact ⟨j, by omega, by go_num, by rw [HS.out, ← HJ.out]⟩
      case measure => simp [intOf]
    · obtain rfl : k = 0 := by omega
      go_wp2
      go_ret
      exact ⟨rfl, rfl⟩
set_option maxRecDepth 100000 in
/-- append(b, make([]byte, m)...). -/
theorem append_zeros_run (w : World) (base : Nat) (v : Value) (n m : Nat) (xs : List Int) (hown : w.ownsRow base 5 1 v n (By xs)) (hbase : base ≤ w.heap.size) (hn : 0 < n) (hm : 0 < m) (hbig : n + m ≤ 16777216) :
    ∃ v' w', (Builtin.append_ #[26, 3] 26 #[v, .int .i64 m]).run Tryz.prog w = .ok v' w' ∧ w'.ownsRow base 5 1 v' (n + m) (By (xs ++ List.replicate m 0)) ∧ w.grownBy w' v.ownBlock := by
  obtain ⟨i0, hi, hz0, hz1, hz2⟩ := info5p
  have hlx : xs.length = n := by have := hown.1; rw [By_length] at this; omega
  have hzc : ∀ k, Builtin.zeroCells (Value.int .u8 0).cells k = (By (List.replicate k 0)).toArray := by
    intro k
    apply Array.ext'
    rw [show (By (List.replicate k 0)).toArray.toList = List.replicate k (Value.int .u8 0) by simp [By], List.eq_replicate_iff]
    simp [Builtin.zeroCells, Value.cells, Nat.mod_one]
  have hw : IntKind.i64.wrap (m : Int) = m := by rw [IntKind.wrap_i64]; omega
  have hneg : ¬ ((m : Int) < 0) := by omega
  have h48 : ¬ (281474976710656 < (m : Int)) := by omega
  have hlen : (By (xs ++ List.replicate m 0)).length = n + m := by rw [By_length]; simp [hlx]
  have hbyapp : By (xs ++ List.replicate m 0) = By xs ++ By (List.replicate m 0) := by simp [By]
  have has : ∀ w, (asInt (.int .i64 (m : Int))).run Tryz.prog w = .ok (m : Int) w := by intro w; simp [asInt, asIntOf]
  have h0 : m ≠ 0 := by omega
  rcases hown.2 with ⟨rfl, rfl⟩ | ⟨g, cap, cur, rfl, hbg, hg, hnc, hcm, hcs, htake⟩
  · omega
  · by_cases hroom : n + m ≤ cap
    · have hst := run_storeCells_at Tryz.prog g n 5 (By (List.replicate m 0)) 0 cur w hg (by rw [By_length]; simp; omega) (By_one _)
      simp only [Nat.add_zero] at hst
      refine ⟨.slice (some ⟨g, 0, none⟩) (n + m) cap, w.setRow g (cur.toList.take n ++ By (List.replicate m 0) ++ cur.toList.drop (n + (By (List.replicate m 0)).length)).toArray, ?_, ?_, ?_⟩
      · simp [Builtin.append_, run_underlying Tryz.underlying26, run_underlying Tryz.underlying3, sizeOf, typeInfo, hi, hz1, hz2, zeroValue, hz0, has, hw, hneg, h48, hroom, hzc, Addr.add_lit, hst, h0]
      · refine ⟨by rw [hlen]; omega, .inr ⟨g, cap, _, rfl, hbg, setRow_heap w g cur _ 5 _ hg, hroom, hcm, ?_, ?_⟩⟩
        · simp only [List.size_toArray, List.length_append, List.length_take, List.length_drop, Array.length_toList, By_length, List.length_replicate]
          omega
        · rw [Nat.mul_one] at htake
          rw [htake, ← hbyapp, show (n + m) * 1 = (By (xs ++ List.replicate m 0)).length by rw [hlen]; omega]
          exact List.take_left
      · exact ⟨rfl, rfl, rfl, by simp, fun k _ hk => setRow_other w g k _ (fun e => hk (by simp [Value.ownBlock, e]))⟩
    · refine ⟨.slice (some ⟨w.heap.size, 0, none⟩) (n + m) (grownCap w (n + m) cap 5), w.drew.alloc (.cells (By xs ++ By (List.replicate m 0) ++ By (List.replicate (grownCap w (n + m) cap 5 - (n + m)) 0)).toArray 5), ?_, ?_, ?_⟩
      · have holds : ∀ j u, (By xs)[j]? = some u → w.cell? ((⟨g, 0, none⟩ : Addr).add j) = some u := hown.cells (g := g) rfl
        have hfo := run_firstCells_some (P := Tryz.prog) w.drew 1 n ⟨g, 0, none⟩ n cap (By xs) (by rw [By_length, hlx]; omega) (by simpa using holds)
        have h63' : ¬ (9223372036854775807 < ((n : Int) + (m : Int))) := by omega
        have hfit := growslice_fits (need := n + m) (old := cap) (bytes := 1) (by omega) (by omega)
        have h48' : ¬ (281474976710656 < Builtin.nextslicecap (n + m) cap) := by omega
        simp [Builtin.append_, run_underlying Tryz.underlying26, run_underlying Tryz.underlying3, sizeOf, typeInfo, hi, hz1, hz2, zeroValue, hz0, has, hw, hneg, h48, hroom, hzc, h63', h48', Question.forced, hfo, newRow, grownCap, h0]
      · have hge := grownCap_ge w (n + m) cap 5
        have hcm2 : grownCap w (n + m) cap 5 ≤ maxLen := grownCap_le_maxLen w (n + m) cap 5 (by unfold maxLen; omega)
        refine ⟨by rw [hlen]; omega, .inr ⟨w.heap.size, _, _, rfl, hbase, heap_alloc_new w.drew _, hge, hcm2, ?_, ?_⟩⟩
        · simp only [List.size_toArray, List.length_append, By_length, List.length_replicate]
          omega
        · rw [← hbyapp, show (n + m) * 1 = (By (xs ++ List.replicate m 0)).length by rw [hlen]; omega]
          exact List.take_left
      · exact ⟨rfl, rfl, rfl, by simp, fun k hk _ => Below.heap_alloc w.drew _ k hk⟩
end Sup
end Go.Proofs.YtejnmpnioeamhaaGreat
namespace Go.Proofs.YtejnmpnioeamhaaGreat
open Go Go.Proofs Go.RowKit Go.Shelf
namespace Sup
set_option maxRecDepth 100000 in
theorem append_zeros_below (w : World) (base : Nat) (v : Value) (n m : Nat) (xs : List Int) (hown : w.ownsRow base 5 1 v n (By xs)) (hbase : base ≤ w.heap.size) (hn : 0 < n) (hm : 0 < m) (hbig : n + m ≤ 16777216) :
    ∃ v' w', (Builtin.append_ #[26, 3] 26 #[v, .int .i64 m]).run Tryz.prog w = .ok v' w' ∧ w'.ownsRow base 5 1 v' (n + m) (By (xs ++ List.replicate m 0)) ∧ Below base w w' := by
  obtain ⟨v', w', h1, h2, h3⟩ := append_zeros_run w base v n m xs hown hbase hn hm hbig
  exact ⟨v', w', h1, h2, (Below.refl _ w).grown h3 hbase (fun k hk => (hown.lt k hk).1)⟩
set_option maxRecDepth 100000 in
set_option maxHeartbeats 1000000 in
theorem fill_any (w : World) (B : Nat) (v : Value) (n m : Nat) (xs : List Int) (hown : w.ownsRow B 5 1 v n (By xs)) (hB : B ≤ w.heap.size) (hn : 0 < n) (hm : n < m) (hm2 : m ≤ 1024) :
    Calls Tryz.prog 86 #[v, .int .i64 m] w fun e w' => ∃ v', e = .returned v' ∧ w'.ownsRow B 5 1 v' m (By (xs ++ List.replicate (m - n) 0)) ∧ Below B w w' := by
  obtain ⟨v', w', hr, ho, hb⟩ := append_zeros_below w B v n (m - n) xs hown hB hn (by omega) (by omega)
  rw [Nat.add_sub_cancel' (Nat.le_of_lt hm)] at ho
  obtain ⟨ao, c, rfl, -⟩ := owns_BAt hown
  have e : (m : Int) - (n : Int) = ((m - n : Nat) : Int) := by omega
  have HR := Hid.mk hr
  have HO := Hid.mk ho
  have HB := Hid.mk hb
  clear hr ho hb hown
  generalize m - n = k at *
  have hk : k ≤ 1024 := by omega
  have hw : IntKind.i64.wrap (k : Int) = k := by rw [IntKind.wrap_i64]; omega
  go_enter Tryz.func86, Tryz.ntmps86
  go_wp2_with (at_builtin; refine wpList_appendz_known rfl (.tmp 5) (.tmp 9) 26 3 rfl _ (.int .i64 k) _ _ rfl (by simp [Act.eval]) HR.out ?_)
  go_ret
  exact ⟨_, rfl, HO.out, HB.out⟩
/-! superblocks -/
def lockL : List Int := [76, 79, 67, 75, 71, 65, 84, 69]
/-- The first 20 bytes of a superblock. -/
def hdrL (G I D : Int) : List Int := lockL ++ leL G 4 ++ leL I 4 ++ leL D 4
/-- A superblock. -/
def superL (G I D : Int) : List Int := hdrL G I D ++ leL (sumL (hdrL G I D)) 4 ++ zeros 1000
theorem hdrL_length (G I D : Int) : (hdrL G I D).length = 20 := by simp [hdrL, leL_length, lockL]
theorem superL_length (G I D : Int) : (superL G I D).length = 1024 := by simp [superL, hdrL_length, leL_length, zeros_length]
theorem lockL_bound : ∀ x ∈ lockL, 0 ≤ x ∧ x ≤ 255 := by decide
theorem hdrL_bound (G I D : Int) : ∀ x ∈ hdrL G I D, 0 ≤ x ∧ x ≤ 255 := by
  intro x hx
  simp only [hdrL, List.mem_append] at hx
  rcases hx with ((hx | hx) | hx) | hx
  · exact lockL_bound x hx
  · exact leL_bound _ _ x hx
  · exact leL_bound _ _ x hx
  · exact leL_bound _ _ x hx
theorem superL_bound (G I D : Int) : ∀ x ∈ superL G I D, 0 ≤ x ∧ x ≤ 255 := by
  intro x hx
  simp only [superL, List.mem_append] at hx
  rcases hx with (hx | hx) | hx
  · exact hdrL_bound G I D x hx
  · exact leL_bound _ _ x hx
  · exact zeros_bound _ x hx
set_option maxRecDepth 100000 in
theorem lock_src (w : World) (B : Nat) : Src (w.alloc (.cells (By lockL).toArray 5 (8, 9))) B (.slice (some ⟨w.heap.size, 0, none⟩) 8 8) 8 lockL := by
  refine .inr ⟨_, rfl, rfl, fun _ => ⟨_, rfl, by simp, fun i hi => ?_⟩⟩
  rw [add_at, blk_cell (blk_new w _), Nat.zero_add]
  simpa using By_get lockL i hi
set_option maxRecDepth 100000 in
set_option maxHeartbeats 2000000 in
theorem packsuper_any (w : World) (G I D : Int) (hg : good G I D = true) : Calls Tryz.prog 75 #[geo G I D] w fun e w' => ∃ v', e = .returned v' ∧ w'.ownsRow w.heap.size 5 1 v' 1024 (By (superL G I D)) ∧ Below w.heap.size w w' := by
  have hb := good_iff.1 hg
  clear hg
  have hG := GAt.new w G I D
  have HK : Hid (∀ W', Below (w.alloc (.cells #[.int .i64 G, .int .i64 I, .int .i64 D] 23)).heap.size (w.alloc (.cells #[.int .i64 G, .int .i64 I, .int .i64 D] 23)).drew W' → G3 w.heap.size G I D W') := Hid.mk (fun W' hB => (GAt.below (W := (w.alloc (.cells #[.int .i64 G, .int .i64 I, .int .i64 D] 23)).drew) hG hB (by simp)).g3)
  have hH0 : G3 w.heap.size G I D ((w.alloc (.cells #[.int .i64 G, .int .i64 I, .int .i64 D] 23)).drew.alloc (.cells (By lockL).toArray 5)) := HK.out _ ((Below.refl (w.alloc (.cells #[.int .i64 G, .int .i64 I, .int .i64 D] 23)).heap.size (w.alloc (.cells #[.int .i64 G, .int .i64 I, .int .i64 D] 23)).drew).alloc (by simp) _)
  have HB1 : Hid (Below (w.alloc (.cells #[.int .i64 G, .int .i64 I, .int .i64 D] 23)).heap.size (w.alloc (.cells #[.int .i64 G, .int .i64 I, .int .i64 D] 23)).drew ((w.alloc (.cells #[.int .i64 G, .int .i64 I, .int .i64 D] 23)).drew.alloc (.cells (By lockL).toArray 5 (8, 9)))) := Hid.mk ((Below.refl (w.alloc (.cells #[.int .i64 G, .int .i64 I, .int .i64 D] 23)).heap.size (w.alloc (.cells #[.int .i64 G, .int .i64 I, .int .i64 D] 23)).drew).alloc (by simp) _)
  have HO1 : Hid (Src ((w.alloc (.cells #[.int .i64 G, .int .i64 I, .int .i64 D] 23)).drew.alloc (.cells (By lockL).toArray 5 (8, 9))) (w.alloc (.cells #[.int .i64 G, .int .i64 I, .int .i64 D] 23)).heap.size (.slice (some ⟨(w.alloc (.cells #[.int .i64 G, .int .i64 I, .int .i64 D] 23)).heap.size, 0, none⟩) 8 8) 8 lockL) := Hid.mk (lock_src _ _)
  have hH1 := HK.out _ HB1.out
  clear hG
  go_enter Tryz.func75, Tryz.ntmps75
  go_wp2_with fail
  refine wp_region_held_drew (S := G3 w.heap.size G I D) (by kernel_rfl) (HK.out _ (Below.refl _ _)) (fun hH => ?_)
  change wpAnyH Tryz.prog Region.Mode.any _ _ _ 12 _ _ _
  refine takeH 2 8 (.pointer (some ⟨w.heap.size, 0, none⟩)) rfl (by kernel_rfl) (by kernel_rfl) (by kernel_rfl) (by kernel_rfl) (fun _ _ _ h => h) (by kernel_rfl) (fun w hw => by (try dsimp only at hw); go_simp) hH ?_
  simp only [List.setIfInBounds_toArray, List.set_cons_zero, List.set_cons_succ]
  refine takeH 3 9 (.int .i64 (G)) rfl (by kernel_rfl) (by kernel_rfl) (by kernel_rfl) (by kernel_rfl) (fun _ _ _ h => h) (by kernel_rfl) (fun w hw => by (try dsimp only at hw); go_simp) hH ?_
  simp only [List.setIfInBounds_toArray, List.set_cons_zero, List.set_cons_succ]
  refine takeH 5 11 (.pointer (some ⟨w.heap.size, 1, none⟩)) rfl (by kernel_rfl) (by kernel_rfl) (by kernel_rfl) (by kernel_rfl) (fun _ _ _ h => h) (by kernel_rfl) (fun w hw => by (try dsimp only at hw); go_simp) hH ?_
  simp only [List.setIfInBounds_toArray, List.set_cons_zero, List.set_cons_succ]
  refine takeH 6 12 (.int .i64 (I)) rfl (by kernel_rfl) (by kernel_rfl) (by kernel_rfl) (by kernel_rfl) (fun _ _ _ h => h) (by kernel_rfl) (fun w hw => by (try dsimp only at hw); go_simp) hH ?_
  simp only [List.setIfInBounds_toArray, List.set_cons_zero, List.set_cons_succ]
  refine takeH 8 14 (.pointer (some ⟨w.heap.size, 2, none⟩)) rfl (by kernel_rfl) (by kernel_rfl) (by kernel_rfl) (by kernel_rfl) (fun _ _ _ h => h) (by kernel_rfl) (fun w hw => by (try dsimp only at hw); go_simp) hH ?_
  simp only [List.setIfInBounds_toArray, List.set_cons_zero, List.set_cons_succ]
  refine takeH 9 15 (.int .i64 (D)) rfl (by kernel_rfl) (by kernel_rfl) (by kernel_rfl) (by kernel_rfl) (fun _ _ _ h => h) (by kernel_rfl) (fun w hw => by (try dsimp only at hw); go_simp) hH ?_
  simp only [List.setIfInBounds_toArray, List.set_cons_zero, List.set_cons_succ]
  refine stepH_run 0 6 (.slice (some ⟨(w.alloc (.cells #[.int .i64 G, .int .i64 I, .int .i64 D] 23)).heap.size, 0, none⟩) 8 8) ((w.alloc (.cells #[.int .i64 G, .int .i64 I, .int .i64 D] 23)).drew.alloc (.cells (By lockL).toArray 5)) rfl (by kernel_rfl) (by kernel_rfl) (by kernel_rfl) (by kernel_rfl) hH0 ?_
  simp only [List.setIfInBounds_toArray, List.set_cons_zero, List.set_cons_succ]
  refine stepH_run 1 7 (.slice (some ⟨(w.alloc (.cells #[.int .i64 G, .int .i64 I, .int .i64 D] 23)).heap.size, 0, none⟩) 8 8) ((w.alloc (.cells #[.int .i64 G, .int .i64 I, .int .i64 D] 23)).drew.alloc (.cells (By lockL).toArray 5 (8, 9))) rfl (by kernel_rfl) (by kernel_rfl) (by kernel_rfl) (exec_convert (x := .tmp 6) rfl (by kernel_rfl) (Lib.run_convert_bytes_const (w.alloc (.cells #[.int .i64 G, .int .i64 I, .int .i64 D] 23)).drew 26 5 (By lockL).toArray 8 8 Tryz.underlying26 Tryz.underlying5)) hH1 ?_
  simp only [List.setIfInBounds_toArray, List.set_cons_zero, List.set_cons_succ]
  refine stepH_call 4 10 rfl (by kernel_rfl) (by kernel_rfl) (by kernel_rfl) 85 #[.tmp 7, .tmp 9, .const (.int .i64 4)] #[26, 3, 3] (by kernel_rfl) (enters_of Tryz.func85 (by kernel_rfl) rfl) #[.slice (some ⟨(w.alloc (.cells #[.int .i64 G, .int .i64 I, .int .i64 D] 23)).heap.size, 0, none⟩) 8 8, .int .i64 (G), .int .i64 4] (by kernel_rfl) (rput_any _ (w.alloc (.cells #[.int .i64 G, .int .i64 I, .int .i64 D] 23)).heap.size _ 8 4 lockL G HO1.out (by simp) (by omega) (by omega) (by omega) (by omega) (by omega)) ?_
  rintro e W2 ⟨v2, rfl, ho2, hb2⟩
  have HO2 := Hid.mk ho2
  have HB2 := Hid.mk (HB1.out.trans hb2)
  clear ho2 hb2
  have hH2 := HK.out W2 HB2.out
  refine ⟨_, rfl, hH2, ?_⟩
  simp only [List.setIfInBounds_toArray, List.set_cons_zero, List.set_cons_succ]
  refine stepH_call 7 13 rfl (by kernel_rfl) (by kernel_rfl) (by kernel_rfl) 85 #[.tmp 10, .tmp 12, .const (.int .i64 4)] #[26, 3, 3] (by kernel_rfl) (enters_of Tryz.func85 (by kernel_rfl) rfl) #[v2, .int .i64 (I), .int .i64 4] (by kernel_rfl) (rput_any _ (w.alloc (.cells #[.int .i64 G, .int .i64 I, .int .i64 D] 23)).heap.size _ 12 4 _ I (.inl HO2.out) HB2.out.size (by omega) (by omega) (by omega) (by omega) (by omega)) ?_
  rintro e W3 ⟨v3, rfl, ho3, hb3⟩
  have HO3 := Hid.mk ho3
  have HB3 := Hid.mk (HB2.out.trans hb3)
  clear ho3 hb3
  have hH3 := HK.out W3 HB3.out
  refine ⟨_, rfl, hH3, ?_⟩
  simp only [List.setIfInBounds_toArray, List.set_cons_zero, List.set_cons_succ]
  refine stepH_call 10 16 rfl (by kernel_rfl) (by kernel_rfl) (by kernel_rfl) 85 #[.tmp 13, .tmp 15, .const (.int .i64 4)] #[26, 3, 3] (by kernel_rfl) (enters_of Tryz.func85 (by kernel_rfl) rfl) #[v3, .int .i64 (D), .int .i64 4] (by kernel_rfl) (rput_any _ (w.alloc (.cells #[.int .i64 G, .int .i64 I, .int .i64 D] 23)).heap.size _ 16 4 _ D (.inl HO3.out) HB3.out.size (by omega) (by omega) (by omega) (by omega) (by omega)) ?_
  rintro e W4 ⟨v4, rfl, ho4, hb4⟩
  have HO4 := Hid.mk ho4
  have HB4 := Hid.mk (HB3.out.trans hb4)
  clear ho4 hb4
  have hH4 := HK.out W4 HB4.out
  refine ⟨_, rfl, hH4, ?_⟩
  simp only [List.setIfInBounds_toArray, List.set_cons_zero, List.set_cons_succ]
  refine takeH 11 3 (v4) rfl (by kernel_rfl) (by kernel_rfl) (by kernel_rfl) (by kernel_rfl) (fun _ _ _ h => h) (by kernel_rfl) (fun w hw => by kernel_rfl) hH4 ?_
  simp only [List.setIfInBounds_toArray, List.set_cons_zero, List.set_cons_succ]
  refine wpAnyH_done (by kernel_rfl) ?_ _
  have HO : Hid (W4.ownsRow (w.alloc (.cells #[.int .i64 G, .int .i64 I, .int .i64 D] 23)).heap.size 5 1 v4 20 (By (hdrL G I D))) := HO4
  have HB := HB4
  clear HO1 HO2 HO3 HO4 HB1 HB2 HB3 HB4 hH hH0 hH1 hH2 hH3 hH4 HK
  obtain ⟨ao, c, e4, hBA, hbk, hne⟩ := owns_BAt HO.out
  subst e4
  have HBA := Hid.mk hBA
  clear hBA hbk hne
  have hsb := sumL_bound (hdrL G I D) (hdrL_bound G I D)
  rw [hdrL_length] at hsb
  go_wp2
  go_loop [4, 5] (fun s i => ∃ k : Nat, k ≤ 20 ∧ i = .int .i64 k ∧ s = .int .i64 (sumL ((hdrL G I D).take k))) (fun _ i => 20 - (intOf i).toNat)
  case atStart => exact ⟨0, by omega, rfl, rfl⟩
  case round =>
    obtain ⟨k, hk, rfl, rfl⟩ := hrel
    by_cases hlt : k < 20
    · obtain ⟨a', e, hc⟩ := HBA.out.at k hlt
      subst e
      have hs := sumL_take (hdrL G I D) k (by rw [hdrL_length]; exact hlt)
      have hb2 := sumL_bound ((hdrL G I D).take k) (fun x hx => hdrL_bound G I D x (List.mem_of_mem_take hx))
      have hbb := getD_bound (hdrL G I D) (hdrL_bound G I D) k
      have hlen : ((hdrL G I D).take k).length ≤ 20 := by simp; omega
      generalize (hdrL G I D).getD k 0 = x at *
      generalize sumL ((hdrL G I D).take k) = y at *
      have hwr : IntKind.i64.wrap (y + x) = y + x := by rw [IntKind.wrap_i64]; omega
      have HS := Hid.mk hs
      clear hlen hs
      go_wp2
      go_round
      case rel => exact ⟨k + 1, by omega, by go_num, by rw [HS.out]⟩
      case measure => simp [intOf]; omega
    · have hge : (20 : Int) ≤ k := by omega
      have e20 : (hdrL G I D).take k = hdrL G I D := List.take_of_length_le (by rw [hdrL_length]; omega)
      rw [e20]
      have HS : Hid (∃ s, sumL (hdrL G I D) = s) := Hid.mk ⟨_, rfl⟩
      generalize hgen : sumL (hdrL G I D) = s at hsb ⊢
      have HE := Hid.mk hgen
      clear hgen e20
      go_wp2_with (first
        | (go_at_call 85; refine (rput_any _ _ _ 20 4 _ s (.inl HO.out) HB.out.size (by omega) (by omega) (by omega) (by omega) (by omega)).mono ?_; rintro e W5 ⟨v5, rfl, ho5, hb5⟩; have HO5 := Hid.mk ho5; have HB5 := Hid.mk (HB.out.trans hb5); clear ho5 hb5)
        | (go_at_call 86; refine (fill_any _ _ _ 24 1024 _ HO5.out HB5.out.size (by omega) (by omega) (by omega)).mono ?_; rintro e W6 ⟨v6, rfl, ho6, hb6⟩; have HO6 := Hid.mk ho6; have HB6 := Hid.mk (HB5.out.trans hb6); clear ho6 hb6))
      go_ret
      refine ⟨_, rfl, ?_, ?_⟩
      · refine owns_base ?_ (show w.heap.size ≤ (w.alloc (.cells #[.int .i64 G, .int .i64 I, .int .i64 D] 23)).heap.size by simp)
        have h := HO6.out
        rw [← HE.out] at h
        exact h
      · exact ((Below.refl _ w).alloc (Nat.le_refl _) _).drew.trans (HB6.out.mono (by simp))
end Sup
end Go.Proofs.YtejnmpnioeamhaaGreat
namespace Go.Proofs.YtejnmpnioeamhaaGreat
open Go Go.Proofs Go.RowKit Go.Shelf
namespace Sup
set_option maxRecDepth 100000 in
/-- copy(b, "..."), from the beginning. -/
theorem copy_str_run (W : World) (g n c : Nat) (xs ys : List Int) (s : ByteArray) (h : RAt W g xs) (hs : Lib.byteCells s.data.toList = By ys) (hn : ys.length ≤ n) (hl : n ≤ xs.length) :
    ∃ W', (Builtin.copy_ #[26, 9] 3 #[.slice (some ⟨g, 0, none⟩) n c, .string s]).run Tryz.prog W = .ok (.int .i64 ys.length) W' ∧ RAt W' g (splice xs 0 ys) ∧ Only (fun k => k = g) W W' := by
  obtain ⟨i0, hi, hz0, hz1, hz2⟩ := info5p
  have hsz : s.size = ys.length := by
    have := congrArg List.length hs
    rw [Lib.byteCells_length, By_length] at this
    rw [← this, ← Lib.size_eq]
  have hr := Lib.run_copy_row_string (P := Tryz.prog) W 26 9 3 5 g 0 n c s (By xs).toArray 5 Tryz.underlying26 (by rw [hi]; simp [hz1]) h (by omega) (by simp [By_length]; omega)
  refine ⟨W.setRow g (By (splice xs 0 ys)).toArray, hr.trans ?_, setRow_heap W g _ _ 5 _ h, (Only.refl (fun k => k = g) W).setRow (.inl rfl) _⟩
  rw [hsz, hs]
  simp [splice, By]
  rfl
/-- What Pack holds in memory: the geometry, the row that it makes. -/
structure PkAt (w : World) (b g : Nat) (G I D : Int) (xs : List Int) (W : World) : Prop where
  geo : GAt b G I D W
  row : RAt W g xs
  below : Below w.heap.size w W
  ne : b ≠ g
  ge : w.heap.size ≤ g
set_option maxRecDepth 100000 in
theorem PkAt.put {w W W' : World} {b g : Nat} {G I D : Int} {xs ys : List Int} (h : PkAt w b g G I D xs W) (hr : RAt W' g ys) (ho : Only (fun k => k = g) W W') : PkAt w b g G I D ys W' := by
  refine ⟨?_, hr, h.below.trans (ho.below h.below.size (fun k e => by rw [e]; exact h.ge)), h.ne, h.ge⟩
  unfold GAt
  rw [ho.block b h.geo.lt h.ne]
  exact h.geo
theorem PkAt.drew {w W : World} {b g : Nat} {G I D : Int} {xs : List Int} (h : PkAt w b g G I D xs W) : PkAt w b g G I D xs W.drew := ⟨h.geo, h.row, h.below.drew, h.ne, h.ge⟩
theorem PkAt.then {w W W' : World} {b g : Nat} {G I D : Int} {xs : List Int} (h : PkAt w b g G I D xs W) (hb : Below W.heap.size W W') : PkAt w b g G I D xs W' :=
  ⟨h.geo.below hb h.geo.lt, h.row.below hb h.row.lt, h.below.trans (hb.mono h.below.size), h.ne, h.ge⟩
theorem splice_lock : splice (zeros 1024) 0 lockL = lockL ++ zeros (1024 - 8) := by
  have h := splice_zero 1024 [] lockL 0 rfl (by decide)
  simpa [lockL] using h
theorem lock_bytes : Lib.byteCells (ByteArray.mk #[76, 79, 67, 75, 71, 65, 84, 69]).data.toList = By lockL := by rfl
set_option maxRecDepth 100000 in
theorem pack_no (w : World) (G I D : Int) (hg : good G I D = false) : Calls Tryz.prog 27 #[geo G I D] w fun e w' => e = .returned (.tuple #[.slice none 0 0, .int .i64 1]) ∧ Below w.heap.size w w' := by
  have HG := Hid.mk hg
  clear hg
  go_enter Tryz.func27, Tryz.ntmps27
  go_wp2_with (go_at_call 11; refine (check_no _ G I D HG.out).mono ?_; rintro e w1 ⟨rfl, hB⟩; obtain ⟨hG1, hB1⟩ := behind hB; have HB1 := Hid.mk hB1; clear hB hG1 hB1)
  go_ret2
  exact ⟨rfl, HB1.out⟩
theorem hdr_put (G I D : Int) : splice (lockL ++ zeros (1024 - 8)) 8 (leLs 4 [G, I, D]) = hdrL G I D ++ zeros (1024 - 20) := by
  have h := splice_zero 1024 lockL (leLs 4 [G, I, D]) 8 rfl (by simp [leLs_length])
  rw [leLs_length] at h
  rw [h]
  simp [hdrL, leLs]
set_option maxRecDepth 100000 in
theorem super_put (G I D s : Int) : splice (hdrL G I D ++ zeros (1024 - 20)) 20 (leLs 4 [s]) = hdrL G I D ++ leL s 4 ++ zeros 1000 := by
  have e : leLs 4 [s] = leL s 4 := by simp [leLs]
  have h := splice_zero 1024 (hdrL G I D) (leL s 4) 20 (hdrL_length G I D) (by simp [leL_length])
  rw [leL_length] at h
  rw [e, h]
set_option maxRecDepth 100000 in
set_option maxHeartbeats 4000000 in
theorem pack_yes (w : World) (G I D : Int) (hg : good G I D = true) : Calls Tryz.prog 27 #[geo G I D] w fun e w' => ∃ g, e = .returned (.tuple #[.slice (some ⟨g, 0, none⟩) 1024 1024, .int .i64 0]) ∧ RAt w' g (superL G I D) ∧ w.heap.size ≤ g ∧ Below w.heap.size w w' := by
  have HG := Hid.mk hg
  have hb := good_iff.1 hg
  clear hg
  go_enter Tryz.func27, Tryz.ntmps27
  go_wp2_with (first
    | (go_at_call 11; refine (check_yes _ G I D HG.out).mono ?_; rintro e w1 ⟨rfl, hB⟩; obtain ⟨hG1, hB1⟩ := behind hB; obtain ⟨g, hge⟩ : ∃ g, g = w1.heap.size := ⟨_, rfl⟩; have hP0 : PkAt w w.heap.size g G I D (zeros 1024) (w1.alloc (.cells (By (zeros 1024)).toArray 5)) := ⟨hG1.below ((Below.refl _ w1).alloc (Nat.le_refl _) _) hG1.lt, by rw [hge]; exact blk_new w1 _, hB1.alloc hB1.size _, by rw [hge]; exact Nat.ne_of_lt hG1.lt, by rw [hge]; exact hB1.size⟩; obtain ⟨W2, r2, hr2, ho2⟩ := copy_str_run _ g 1024 1024 (zeros 1024) lockL _ hP0.row lock_bytes (by decide) (by rw [zeros_length]; omega); rw [splice_lock] at hr2; change _ = Result.ok (Value.int .i64 8) W2 at r2; have HP := Hid.mk (hP0.put hr2 ho2); have HR2 := Hid.mk r2; have HMK := Hid.mk (make_run w1 1024 (by omega)); rw [← hge] at HMK; have HGE := Hid.mk hge; clear hB hG1 hB1 hP0 r2 hr2 ho2 hge)
    | (at_make; refine wpList_make_known rfl _ _ 26 rfl _ _ _ _ rfl rfl HMK.out ?_)
    | (refine wpList_copy_known rfl (.tmp 13) (.const (.string ⟨#[76, 79, 67, 75, 71, 65, 84, 69]⟩)) 26 9 rfl _ _ _ _ rfl rfl HR2.out ?_))
  have HGE2 := Hid.mk HP.out.row.lt
  -- the numbers, in a row of their own
  obtain ⟨X, hX⟩ : ∃ X, X = W2.drew.alloc (.cells (Iy [G, I, D]).toArray 3) := ⟨_, rfl⟩
  have hPX : PkAt w w.heap.size g G I D (lockL ++ zeros (1024 - 8)) X := by rw [hX]; exact HP.out.drew.then ((Below.refl _ W2.drew).alloc (Nat.le_refl _) _)
  have hLX : LAt X (some ⟨W2.drew.heap.size, 0, none⟩) 3 [G, I, D] := by rw [hX]; exact lat_newi W2.drew [G, I, D]
  have HQ1 : Hid (Calls Tryz.prog 61 #[.slice (some ⟨g, 8, none⟩) 1016 1016, .slice (some ⟨W2.drew.heap.size, 0, none⟩) 3 3] X fun e w' => e = .returned (.int .i64 12) ∧ PkAt w w.heap.size g G I D (hdrL G I D ++ zeros (1024 - 20)) w') := Hid.mk (by
    refine (put32_any X g 8 1016 1016 (lockL ++ zeros (1024 - 8)) (some ⟨W2.drew.heap.size, 0, none⟩) 3 3 [G, I, D] hPX.row hLX (fun a e => by cases e; exact Nat.ne_of_gt HGE2.out) (fun x hx => by simp at hx; omega) (by omega) (by simp [zeros_length, lockL]) (by omega)).mono ?_
    rintro e w' ⟨rfl, h1, h2⟩
    rw [hdr_put] at h1
    exact ⟨rfl, hPX.put h1 h2⟩)
  have HX := Hid.mk hX
  have hG3X := hPX.geo.g3
  clear hX hPX hLX
  refine wp_region_held_drew (S := G3 w.heap.size G I D) (by kernel_rfl) HP.out.geo.g3 (fun hH => ?_)
  change wpAnyH Tryz.prog Region.Mode.any _ _ _ 14 _ _ _
  refine takeH 0 15 (.int .i64 (8)) rfl (by kernel_rfl) (by kernel_rfl) (by kernel_rfl) (by kernel_rfl) (fun _ _ _ h => h) (by kernel_rfl) (fun w hw => by kernel_rfl) hH ?_
  simp only [List.setIfInBounds_toArray, List.set_cons_zero, List.set_cons_succ]
  refine takeH 1 16 (.slice (some ⟨g, 0, none⟩) 1024 1024) rfl (by kernel_rfl) (by kernel_rfl) (by kernel_rfl) (by kernel_rfl) (fun _ _ _ h => h) (by kernel_rfl) (fun w hw => by kernel_rfl) hH ?_
  simp only [List.setIfInBounds_toArray, List.set_cons_zero, List.set_cons_succ]
  refine takeH 2 17 (.int .i64 (8)) rfl (by kernel_rfl) (by kernel_rfl) (by kernel_rfl) (by kernel_rfl) (fun _ _ _ h => h) (by kernel_rfl) (fun w hw => by kernel_rfl) hH ?_
  simp only [List.setIfInBounds_toArray, List.set_cons_zero, List.set_cons_succ]
  refine takeH 3 18 (.slice (some ⟨g, 8, none⟩) 1016 1016) rfl (by kernel_rfl) (by kernel_rfl) (by kernel_rfl) (by kernel_rfl) (fun _ _ _ h => h) (by kernel_rfl) (fun w hw => by (try dsimp only at hw); go_simp) hH ?_
  simp only [List.setIfInBounds_toArray, List.set_cons_zero, List.set_cons_succ]
  refine takeH 4 19 (.pointer (some ⟨w.heap.size, 0, none⟩)) rfl (by kernel_rfl) (by kernel_rfl) (by kernel_rfl) (by kernel_rfl) (fun _ _ _ h => h) (by kernel_rfl) (fun w hw => by (try dsimp only at hw); go_simp) hH ?_
  simp only [List.setIfInBounds_toArray, List.set_cons_zero, List.set_cons_succ]
  refine takeH 5 20 (.int .i64 (G)) rfl (by kernel_rfl) (by kernel_rfl) (by kernel_rfl) (by kernel_rfl) (fun _ _ _ h => h) (by kernel_rfl) (fun w hw => by (try dsimp only at hw); go_simp) hH ?_
  simp only [List.setIfInBounds_toArray, List.set_cons_zero, List.set_cons_succ]
  refine takeH 6 21 (.pointer (some ⟨w.heap.size, 1, none⟩)) rfl (by kernel_rfl) (by kernel_rfl) (by kernel_rfl) (by kernel_rfl) (fun _ _ _ h => h) (by kernel_rfl) (fun w hw => by (try dsimp only at hw); go_simp) hH ?_
  simp only [List.setIfInBounds_toArray, List.set_cons_zero, List.set_cons_succ]
  refine takeH 7 22 (.int .i64 (I)) rfl (by kernel_rfl) (by kernel_rfl) (by kernel_rfl) (by kernel_rfl) (fun _ _ _ h => h) (by kernel_rfl) (fun w hw => by (try dsimp only at hw); go_simp) hH ?_
  simp only [List.setIfInBounds_toArray, List.set_cons_zero, List.set_cons_succ]
  refine takeH 8 23 (.pointer (some ⟨w.heap.size, 2, none⟩)) rfl (by kernel_rfl) (by kernel_rfl) (by kernel_rfl) (by kernel_rfl) (fun _ _ _ h => h) (by kernel_rfl) (fun w hw => by (try dsimp only at hw); go_simp) hH ?_
  simp only [List.setIfInBounds_toArray, List.set_cons_zero, List.set_cons_succ]
  refine takeH 9 24 (.int .i64 (D)) rfl (by kernel_rfl) (by kernel_rfl) (by kernel_rfl) (by kernel_rfl) (fun _ _ _ h => h) (by kernel_rfl) (fun w hw => by (try dsimp only at hw); go_simp) hH ?_
  simp only [List.setIfInBounds_toArray, List.set_cons_zero, List.set_cons_succ]
  refine stepH_run 10 25 (.slice (some ⟨W2.drew.heap.size, 0, none⟩) 3 3) X rfl (by kernel_rfl) (by kernel_rfl) (by kernel_rfl) (by rw [HX.out]; kernel_rfl) hG3X ?_
  simp only [List.setIfInBounds_toArray, List.set_cons_zero, List.set_cons_succ]
  refine stepH_call 11 26 rfl (by kernel_rfl) (by kernel_rfl) (by kernel_rfl) 61 #[.tmp 18, .tmp 25] #[26, 31] (by kernel_rfl) (enters_of Tryz.func61 (by kernel_rfl) rfl) #[.slice (some ⟨g, 8, none⟩) 1016 1016, .slice (some ⟨W2.drew.heap.size, 0, none⟩) 3 3] (by kernel_rfl) HQ1.out ?_
  rintro e W5 ⟨rfl, hP⟩
  have HP5 := Hid.mk hP
  clear hP hH hG3X HQ1 HP
  have HP := HP5
  clear HP5
  have hH := HP.out.geo.g3
  refine ⟨_, rfl, hH, ?_⟩
  simp only [List.setIfInBounds_toArray, List.set_cons_zero, List.set_cons_succ]
  refine takeH 12 27 (.int .i64 (20)) rfl (by kernel_rfl) (by kernel_rfl) (by kernel_rfl) (by kernel_rfl) (fun _ _ _ h => h) (by kernel_rfl) (fun w hw => by kernel_rfl) hH ?_
  simp only [List.setIfInBounds_toArray, List.set_cons_zero, List.set_cons_succ]
  refine takeH 13 6 (.int .i64 (20)) rfl (by kernel_rfl) (by kernel_rfl) (by kernel_rfl) (by kernel_rfl) (fun _ _ _ h => h) (by kernel_rfl) (fun w hw => by kernel_rfl) hH ?_
  simp only [List.setIfInBounds_toArray, List.set_cons_zero, List.set_cons_succ]
  refine wpAnyH_done (by kernel_rfl) ?_ _
  clear hH HX HGE2
  go_wp2_with fail
  have hsb := sumL_bound (hdrL G I D) (hdrL_bound G I D)
  rw [hdrL_length] at hsb
  have HSUM : Hid (Calls Tryz.prog 62 #[.slice (some ⟨g, 0, none⟩) 20 1024] W5.drew fun e w' => e = .returned (.int .i64 (sumL (hdrL G I D))) ∧ w' = W5.drew) := Hid.mk (by
    have h := sum_any W5.drew ⟨g, 0, none⟩ 20 1024 (hdrL G I D) (by
      have h := HP.out.drew.row.bat 0 20 (by simp [zeros_length, hdrL_length])
      rw [List.drop_zero, List.take_left' (hdrL_length G I D)] at h
      exact h) (hdrL_bound G I D) (by omega)
    exact h)
  generalize hgen : sumL (hdrL G I D) = sm at hsb HSUM
  have HE := Hid.mk hgen
  clear hgen
  have HGE2 := Hid.mk HP.out.row.lt
  obtain ⟨Y, hY⟩ : ∃ Y, Y = W5.drew.alloc (.cells (Iy [sm]).toArray 3) := ⟨_, rfl⟩
  have hPY : PkAt w w.heap.size g G I D (hdrL G I D ++ zeros (1024 - 20)) Y := by rw [hY]; exact HP.out.drew.then ((Below.refl _ W5.drew).alloc (Nat.le_refl _) _)
  have hLY : LAt Y (some ⟨W5.drew.heap.size, 0, none⟩) 1 [sm] := by rw [hY]; exact lat_newi W5.drew [sm]
  have HQ2 : Hid (Calls Tryz.prog 61 #[.slice (some ⟨g, 20, none⟩) 1004 1004, .slice (some ⟨W5.drew.heap.size, 0, none⟩) 1 1] Y fun e w' => e = .returned (.int .i64 4) ∧ PkAt w w.heap.size g G I D (hdrL G I D ++ leL sm 4 ++ zeros 1000) w') := Hid.mk (by
    refine (put32_any Y g 20 1004 1004 (hdrL G I D ++ zeros (1024 - 20)) (some ⟨W5.drew.heap.size, 0, none⟩) 1 1 [sm] hPY.row hLY (fun a e => by cases e; exact Nat.ne_of_gt HGE2.out) (fun x hx => by simp at hx; omega) (by omega) (by simp [zeros_length, hdrL_length]) (by omega)).mono ?_
    rintro e w' ⟨rfl, h1, h2⟩
    rw [super_put] at h1
    exact ⟨rfl, hPY.put h1 h2⟩)
  have HY := Hid.mk hY
  clear hY hPY hLY
  refine wp_region_held_drew (S := fun _ => True) (by kernel_rfl) trivial (fun hH => ?_)
  change wpAnyH Tryz.prog Region.Mode.any _ _ _ 9 _ _ _
  refine takeH 0 28 (.slice (some ⟨g, 0, none⟩) 1024 1024) rfl (by kernel_rfl) (by kernel_rfl) (by kernel_rfl) (by kernel_rfl) (fun _ _ _ h => h) (by kernel_rfl) (fun w hw => by kernel_rfl) hH ?_
  simp only [List.setIfInBounds_toArray, List.set_cons_zero, List.set_cons_succ]
  refine takeH 1 29 (.int .i64 (20)) rfl (by kernel_rfl) (by kernel_rfl) (by kernel_rfl) (by kernel_rfl) (fun _ _ _ h => h) (by kernel_rfl) (fun w hw => by kernel_rfl) hH ?_
  simp only [List.setIfInBounds_toArray, List.set_cons_zero, List.set_cons_succ]
  refine takeH 2 30 (.slice (some ⟨g, 20, none⟩) 1004 1004) rfl (by kernel_rfl) (by kernel_rfl) (by kernel_rfl) (by kernel_rfl) (fun _ _ _ h => h) (by kernel_rfl) (fun w hw => by (try dsimp only at hw); go_simp) hH ?_
  simp only [List.setIfInBounds_toArray, List.set_cons_zero, List.set_cons_succ]
  refine takeH 3 31 (.slice (some ⟨g, 0, none⟩) 1024 1024) rfl (by kernel_rfl) (by kernel_rfl) (by kernel_rfl) (by kernel_rfl) (fun _ _ _ h => h) (by kernel_rfl) (fun w hw => by kernel_rfl) hH ?_
  simp only [List.setIfInBounds_toArray, List.set_cons_zero, List.set_cons_succ]
  refine takeH 4 32 (.int .i64 (20)) rfl (by kernel_rfl) (by kernel_rfl) (by kernel_rfl) (by kernel_rfl) (fun _ _ _ h => h) (by kernel_rfl) (fun w hw => by kernel_rfl) hH ?_
  simp only [List.setIfInBounds_toArray, List.set_cons_zero, List.set_cons_succ]
  refine takeH 5 33 (.slice (some ⟨g, 0, none⟩) 20 1024) rfl (by kernel_rfl) (by kernel_rfl) (by kernel_rfl) (by kernel_rfl) (fun _ _ _ h => h) (by kernel_rfl) (fun w hw => by (try dsimp only at hw); go_simp) hH ?_
  simp only [List.setIfInBounds_toArray, List.set_cons_zero, List.set_cons_succ]
  refine stepH_call 6 34 rfl (by kernel_rfl) (by kernel_rfl) (by kernel_rfl) 62 #[.tmp 33] #[26] (by kernel_rfl) (enters_of Tryz.func62 (by kernel_rfl) rfl) #[.slice (some ⟨g, 0, none⟩) 20 1024] (by kernel_rfl) HSUM.out ?_
  rintro e w6 ⟨rfl, hw⟩
  subst w6
  refine ⟨_, rfl, trivial, ?_⟩
  simp only [List.setIfInBounds_toArray, List.set_cons_zero, List.set_cons_succ]
  refine stepH_run 7 35 (.slice (some ⟨W5.drew.heap.size, 0, none⟩) 1 1) Y rfl (by kernel_rfl) (by kernel_rfl) (by kernel_rfl) (by rw [HY.out]; kernel_rfl) trivial ?_
  simp only [List.setIfInBounds_toArray, List.set_cons_zero, List.set_cons_succ]
  refine stepH_call 8 36 rfl (by kernel_rfl) (by kernel_rfl) (by kernel_rfl) 61 #[.tmp 30, .tmp 35] #[26, 31] (by kernel_rfl) (enters_of Tryz.func61 (by kernel_rfl) rfl) #[.slice (some ⟨g, 20, none⟩) 1004 1004, .slice (some ⟨W5.drew.heap.size, 0, none⟩) 1 1] (by kernel_rfl) HQ2.out ?_
  rintro e W6 ⟨rfl, hP⟩
  have HP2 := Hid.mk hP
  clear hP
  refine ⟨_, rfl, trivial, ?_⟩
  simp only [List.setIfInBounds_toArray, List.set_cons_zero, List.set_cons_succ]
  refine wpAnyH_done (by kernel_rfl) ?_ _
  clear hH HP HSUM HQ2 HY HGE2
  go_wp2
  go_ret2
  refine ⟨g, rfl, ?_, HP2.out.ge, HP2.out.below⟩
  have h := HP2.out.row
  rw [← HE.out] at h
  exact h
set_option maxRecDepth 100000 in
theorem pack_any (w : World) (G I D : Int) : Calls Tryz.prog 27 #[geo G I D] w fun e w' => Below w.heap.size w w' ∧ ((good G I D = false ∧ e = .returned (.tuple #[.slice none 0 0, .int .i64 1])) ∨
    (good G I D = true ∧ ∃ g, e = .returned (.tuple #[.slice (some ⟨g, 0, none⟩) 1024 1024, .int .i64 0]) ∧ RAt w' g (superL G I D) ∧ w.heap.size ≤ g)) := by
  cases hg : good G I D with
  | false =>
    refine (pack_no w G I D hg).mono ?_
    rintro e w' ⟨rfl, h⟩
    exact ⟨h, .inl ⟨rfl, rfl⟩⟩
  | true =>
    refine (pack_yes w G I D hg).mono ?_
    rintro e w' ⟨g, rfl, h1, h2, h3⟩
    exact ⟨h3, .inr ⟨rfl, g, rfl, h1, h2⟩⟩
end Sup
end Go.Proofs.YtejnmpnioeamhaaGreat
namespace Go.Proofs.YtejnmpnioeamhaaGreat
open Go Go.Proofs Go.RowKit Go.Shelf
namespace Sup
/-- The three numbers of a superblock's bytes. -/
def gOf (xs : List Int) : Int := numL ((xs.drop 8).take 4)
def iOf (xs : List Int) : Int := numL ((xs.drop 12).take 4)
def dOf (xs : List Int) : Int := numL ((xs.drop 16).take 4)
/-- Is it a superblock? -/
def rdB (xs : List Int) : Bool := decide (xs.length = 1024) && (good (gOf xs) (iOf xs) (dOf xs) && eqB xs (superL (gOf xs) (iOf xs) (dOf xs)))
def rdV (xs : List Int) : Value := if rdB xs = true then geo (gOf xs) (iOf xs) (dOf xs) else geo 0 0 0
def rdE (xs : List Int) : Int := if rdB xs = true then 0 else 4
theorem rd_yes {xs : List Int} (h : rdB xs = true) : rdV xs = geo (gOf xs) (iOf xs) (dOf xs) ∧ rdE xs = 0 := ⟨if_pos h, if_pos h⟩
theorem rd_no {xs : List Int} (h : rdB xs = false) : rdV xs = geo 0 0 0 ∧ rdE xs = 4 := ⟨if_neg (by simp [h]), if_neg (by simp [h])⟩
set_option maxRecDepth 100000 in
theorem num4_bound (xs : List Int) (h : ∀ x ∈ xs, 0 ≤ x ∧ x ≤ 255) (o : Nat) : 0 ≤ numL ((xs.drop o).take 4) ∧ numL ((xs.drop o).take 4) < 4294967296 := by
  have h1 := numL_bound ((xs.drop o).take 4) (take_bound _ (drop_bound xs h o) 4)
  have h2 : ((xs.drop o).take 4).length ≤ 4 := List.length_take_le _ _
  refine ⟨h1.1, Int.lt_of_lt_of_le h1.2 ?_⟩
  have : (256 : Int) ^ ((xs.drop o).take 4).length ≤ 256 ^ 4 := by
    generalize ((xs.drop o).take 4).length = k at h2
    match k, h2 with
    | 0, _ => decide
    | 1, _ => decide
    | 2, _ => decide
    | 3, _ => decide
    | 4, _ => decide
  exact this
section
variable {P : Program} {ops : Array Oper} {Q : Exit → Act → World → Prop} {md : Region.Mode} {S : World → Prop} {fuel : Nat} {listed : Array Bool} {t : Array Value} {w : World}
end
theorem store_geo_run (X : World) (G I D a b c : Int) : (Instr.storeAt 23 (.pointer (some ⟨X.heap.size, 0, none⟩)) (geo G I D)).run Tryz.prog (X.alloc (.cells #[.int .i64 a, .int .i64 b, .int .i64 c] 23)) = .ok () (X.alloc (.cells #[.int .i64 G, .int .i64 I, .int .i64 D] 23)) := by
  go_simp
end Sup
end Go.Proofs.YtejnmpnioeamhaaGreat
namespace Go.Proofs.YtejnmpnioeamhaaGreat
open Go Go.Proofs Go.RowKit Go.Shelf
namespace Sup
set_option maxRecDepth 100000 in
theorem rsuper_short (w : World) (ao : Option Addr) (n c : Nat) (hn : n ≠ 1024) :
    Calls Tryz.prog 35 #[.slice ao n c] w fun e w' => e = .returned (.tuple #[geo 0 0 0, .bool false]) ∧ Below w.heap.size w w' := by
  have h1 : ((n : Int) == 1024) = false := by simp; omega
  have h2 : ¬ ((n : Int) = 1024) := by omega
  go_enter Tryz.func35, Tryz.ntmps35
  go_wp2
  refine bodyPost_ret (v := .tuple #[geo 0 0 0, .bool false]) (by simp [results, Tryz.results35, go_sem]) rfl ⟨rfl, ?_⟩
  exact ((Below.refl _ w).alloc (Nat.le_refl _) _)
set_option maxRecDepth 100000 in
set_option maxHeartbeats 4000000 in
theorem rsuper_bad (w : World) (a : Addr) (c : Nat) (xs : List Int) (h : BAt w (some a) 1024 xs) (hx : ∀ x ∈ xs, 0 ≤ x ∧ x ≤ 255) (hgd : good (gOf xs) (iOf xs) (dOf xs) = false) :
    Calls Tryz.prog 35 #[.slice (some a) 1024 c] w fun e w' => e = .returned (.tuple #[rdV xs, .bool (rdB xs)]) ∧ Below w.heap.size w w' := by
    have hrb : rdB xs = false := by unfold rdB; rw [h.1, hgd]; rfl
    have HR := Hid.mk (rd_no hrb)
    have HRB := Hid.mk hrb
    have HX := Hid.mk hx
    have HBA : Hid (∀ W, Below w.heap.size w W → BAt W (some a) 1024 xs) := Hid.mk (fun W hB => h.only (Only.of_new (fun _ => False) hB) (fun _ _ _ h => h))
    have H8 : Hid (∀ W, Below w.heap.size w W → Calls Tryz.prog 74 #[.slice (some a) 1024 c, .int .i64 8, .int .i64 4] W fun e w' => e = .returned (.int .i64 (gOf xs)) ∧ w' = W) := Hid.mk (fun W hB => rnum_any W a 1024 c 8 xs (HBA.out W hB) HX.out (by omega) (by omega))
    have H12 : Hid (∀ W, Below w.heap.size w W → Calls Tryz.prog 74 #[.slice (some a) 1024 c, .int .i64 12, .int .i64 4] W fun e w' => e = .returned (.int .i64 (iOf xs)) ∧ w' = W) := Hid.mk (fun W hB => rnum_any W a 1024 c 12 xs (HBA.out W hB) HX.out (by omega) (by omega))
    have H16 : Hid (∀ W, Below w.heap.size w W → Calls Tryz.prog 74 #[.slice (some a) 1024 c, .int .i64 16, .int .i64 4] W fun e w' => e = .returned (.int .i64 (dOf xs)) ∧ w' = W) := Hid.mk (fun W hB => rnum_any W a 1024 c 16 xs (HBA.out W hB) HX.out (by omega) (by omega))
    have hB1 : Below w.heap.size w (w.alloc (.cells #[.int .i64 0, .int .i64 0, .int .i64 0] 23)) := (Below.refl _ w).alloc (Nat.le_refl _) _
    have HB1 := Hid.mk hB1
    generalize hG : gOf xs = G at *
    generalize hI : iOf xs = I at *
    generalize hD : dOf xs = D at *
    have HGG := Hid.mk hG
    have HII := Hid.mk hI
    have HDD := Hid.mk hD
    have HGD := Hid.mk hgd
    
    
    have HB : Hid (Below w.heap.size w ((w.alloc (.cells #[.int .i64 0, .int .i64 0, .int .i64 0] 23)).alloc (.cells #[.int .i64 G, .int .i64 I, .int .i64 D] 23))) := Hid.mk (hB1.alloc (by simp) _)
    have HG0 : Hid (GAt w.heap.size 0 0 0 ((w.alloc (.cells #[.int .i64 0, .int .i64 0, .int .i64 0] 23)).alloc (.cells #[.int .i64 G, .int .i64 I, .int .i64 D] 23))) := Hid.mk ((GAt.new w 0 0 0).below ((Below.refl _ _).alloc (Nat.le_refl _) _) (by simp))
    have HG1 : Hid (GAt (w.heap.size + 1) G I D ((w.alloc (.cells #[.int .i64 0, .int .i64 0, .int .i64 0] 23)).alloc (.cells #[.int .i64 G, .int .i64 I, .int .i64 D] 23))) := Hid.mk (by have h := GAt.new (w.alloc (.cells #[.int .i64 0, .int .i64 0, .int .i64 0] 23)) G I D; simpa using h)
    have HBX := Hid.mk (HBA.out _ HB.out)
    clear hG hI hD hgd h hx hrb HBA hB1
    go_enter Tryz.func35, Tryz.ntmps35
    go_wp2_with (first
      | (go_at_call 74; refine (H8.out _ HB1.out).mono ?_; rintro e w3 ⟨rfl, hw⟩; subst w3; clear H8)
      | (go_at_call 74; refine (H12.out _ HB1.out).mono ?_; rintro e w3 ⟨rfl, hw⟩; subst w3; clear H12)
      | (go_at_call 74; refine (H16.out _ HB1.out).mono ?_; rintro e w3 ⟨rfl, hw⟩; subst w3; clear H16)
      | (go_at_call 5; refine (good_is _ G I D false HGD.out).mono ?_; rintro e w5 ⟨rfl, hB5⟩; have hg0 := HG0.out.below hB5 HG0.out.lt; have hg1 := HG1.out.below hB5 HG1.out.lt; obtain ⟨d0, d1, d2⟩ := hg0.g3; obtain ⟨k0, k1, k2⟩ := hg1.g3; have f0 := blk_free hg0 0; have f1 := blk_free hg0 1; have f2 := blk_free hg0 2; have HG05 := Hid.mk hg0; have HG15 := Hid.mk hg1; have HB5 := Hid.mk (HB.out.trans (hB5.mono HB.out.size)); have HX5 := Hid.mk (HBX.out.only (Only.of_new (fun _ => False) hB5) (fun _ _ _ h => h)); clear hB5 hg0 hg1))
    have hCV := conv_bytes w5 (some a) 1024 c xs HX5.out
    obtain ⟨SX, hSX⟩ : ∃ SX, SX = strOfNums xs := ⟨_, rfl⟩
    rw [← hSX] at hCV
    have HSX := Hid.mk hSX
    clear hSX
    have HK : Hid (∀ W', Below w5.heap.size w5.drew W' → G3 (w.heap.size + 1) G I D W' ∧ (convert 26 9 (.slice (some a) 1024 c)).run Tryz.prog W' = .ok (.string SX) W') := Hid.mk (fun W' hB => ⟨(GAt.below (W := w5.drew) HG15.out hB HG15.out.lt).g3, by
      rw [HSX.out]
      exact conv_bytes W' (some a) 1024 c xs (BAt.only (W := w5.drew) HX5.out (Only.of_new (fun _ => False) hB) (fun _ _ _ h => h))⟩)
    clear d0 d1 d2 k0 k1 k2 f0 f1 f2 hCV
    refine wp_region_held_drew (S := fun W' => G3 (w.heap.size + 1) G I D W' ∧ (convert 26 9 (.slice (some a) 1024 c)).run Tryz.prog W' = .ok (.string SX) W') (by kernel_rfl) (HK.out _ (Below.refl _ _)) (fun hH => ?_)
    change wpAnyH Tryz.prog Region.Mode.any _ _ _ 10 _ _ _
    refine takeH 0 19 (.bool false) rfl (by kernel_rfl) (by kernel_rfl) (by kernel_rfl) (by kernel_rfl) (fun _ _ _ h => h) (by kernel_rfl) (fun w hw => by kernel_rfl) hH ?_
    simp only [List.setIfInBounds_toArray, List.set_cons_zero, List.set_cons_succ]
    refine takeH 1 20 (.bool true) rfl (by kernel_rfl) (by kernel_rfl) (by kernel_rfl) (by kernel_rfl) (fun _ _ _ h => h) (by kernel_rfl) (fun w hw => by (try dsimp only at hw); go_simp) hH ?_
    simp only [List.setIfInBounds_toArray, List.set_cons_zero, List.set_cons_succ]
    refine takeH 2 21 (.bool true) rfl (by kernel_rfl) (by kernel_rfl) (by kernel_rfl) (by kernel_rfl) (fun _ _ _ h => h) (by kernel_rfl) (fun w hw => by kernel_rfl) hH ?_
    simp only [List.setIfInBounds_toArray, List.set_cons_zero, List.set_cons_succ]
    refine skipH 3 22 rfl (by kernel_rfl) (by kernel_rfl) (by kernel_rfl) (by kernel_rfl) (fun _ _ _ h => h) (by kernel_rfl) hH ?_
    simp only [List.setIfInBounds_toArray, List.set_cons_zero, List.set_cons_succ]
    refine skipH 4 23 rfl (by kernel_rfl) (by kernel_rfl) (by kernel_rfl) (by kernel_rfl) (fun _ _ _ h => h) (by kernel_rfl) hH ?_
    simp only [List.setIfInBounds_toArray, List.set_cons_zero, List.set_cons_succ]
    refine skipH 5 24 rfl (by kernel_rfl) (by kernel_rfl) (by kernel_rfl) (by kernel_rfl) (fun _ _ _ h => h) (by kernel_rfl) hH ?_
    simp only [List.setIfInBounds_toArray, List.set_cons_zero, List.set_cons_succ]
    refine skipH 6 25 rfl (by kernel_rfl) (by kernel_rfl) (by kernel_rfl) (by kernel_rfl) (fun _ _ _ h => h) (by kernel_rfl) hH ?_
    simp only [List.setIfInBounds_toArray, List.set_cons_zero, List.set_cons_succ]
    refine skipH 7 26 rfl (by kernel_rfl) (by kernel_rfl) (by kernel_rfl) (by kernel_rfl) (fun _ _ _ h => h) (by kernel_rfl) hH ?_
    simp only [List.setIfInBounds_toArray, List.set_cons_zero, List.set_cons_succ]
    refine skipH 8 27 rfl (by kernel_rfl) (by kernel_rfl) (by kernel_rfl) (by kernel_rfl) (fun _ _ _ h => h) (by kernel_rfl) hH ?_
    simp only [List.setIfInBounds_toArray, List.set_cons_zero, List.set_cons_succ]
    refine takeH 9 28 (.bool true) rfl (by kernel_rfl) (by kernel_rfl) (by kernel_rfl) (by kernel_rfl) (fun _ _ _ h => h) (by kernel_rfl) (fun w hw => by kernel_rfl) hH ?_
    simp only [List.setIfInBounds_toArray, List.set_cons_zero, List.set_cons_succ]
    refine wpAnyH_done (by kernel_rfl) ?_ _
    obtain ⟨e0, e1, e2⟩ := HG05.out.g3
    have f0 := blk_free HG05.out 0
    have f1 := blk_free HG05.out 1
    have f2 := blk_free HG05.out 2
    have HBE := Hid.mk HB5.out.drew
    clear hH HK
    go_wp2
    refine bodyPost_ret (v := .tuple #[geo 0 0 0, .bool false]) (by simp [results, Tryz.results35, go_sem, e0, e1, e2]) rfl ⟨by rw [HR.out.1, HRB.out], ?_⟩
    exact (((HBE.out.setCell (p := ⟨w.heap.size, 0, none⟩) (Nat.le_refl _) _).setCell (p := ⟨w.heap.size, 1, none⟩) (Nat.le_refl _) _).setCell (p := ⟨w.heap.size, 2, none⟩) (Nat.le_refl _) _)
set_option maxRecDepth 100000 in
set_option maxHeartbeats 4000000 in
theorem rsuper_other (w : World) (a : Addr) (c : Nat) (xs : List Int) (h : BAt w (some a) 1024 xs) (hx : ∀ x ∈ xs, 0 ≤ x ∧ x ≤ 255) (hgd : good (gOf xs) (iOf xs) (dOf xs) = true) (heq : eqB xs (superL (gOf xs) (iOf xs) (dOf xs)) = false) :
    Calls Tryz.prog 35 #[.slice (some a) 1024 c] w fun e w' => e = .returned (.tuple #[rdV xs, .bool (rdB xs)]) ∧ Below w.heap.size w w' := by
    have hrb : rdB xs = false := by unfold rdB; rw [h.1, hgd, heq]; rfl
    have HR := Hid.mk (rd_no hrb)
    have HRB := Hid.mk hrb
    have HX := Hid.mk hx
    have HBA : Hid (∀ W, Below w.heap.size w W → BAt W (some a) 1024 xs) := Hid.mk (fun W hB => h.only (Only.of_new (fun _ => False) hB) (fun _ _ _ h => h))
    have H8 : Hid (∀ W, Below w.heap.size w W → Calls Tryz.prog 74 #[.slice (some a) 1024 c, .int .i64 8, .int .i64 4] W fun e w' => e = .returned (.int .i64 (gOf xs)) ∧ w' = W) := Hid.mk (fun W hB => rnum_any W a 1024 c 8 xs (HBA.out W hB) HX.out (by omega) (by omega))
    have H12 : Hid (∀ W, Below w.heap.size w W → Calls Tryz.prog 74 #[.slice (some a) 1024 c, .int .i64 12, .int .i64 4] W fun e w' => e = .returned (.int .i64 (iOf xs)) ∧ w' = W) := Hid.mk (fun W hB => rnum_any W a 1024 c 12 xs (HBA.out W hB) HX.out (by omega) (by omega))
    have H16 : Hid (∀ W, Below w.heap.size w W → Calls Tryz.prog 74 #[.slice (some a) 1024 c, .int .i64 16, .int .i64 4] W fun e w' => e = .returned (.int .i64 (dOf xs)) ∧ w' = W) := Hid.mk (fun W hB => rnum_any W a 1024 c 16 xs (HBA.out W hB) HX.out (by omega) (by omega))
    have hB1 : Below w.heap.size w (w.alloc (.cells #[.int .i64 0, .int .i64 0, .int .i64 0] 23)) := (Below.refl _ w).alloc (Nat.le_refl _) _
    have HB1 := Hid.mk hB1
    generalize hG : gOf xs = G at *
    generalize hI : iOf xs = I at *
    generalize hD : dOf xs = D at *
    have HGG := Hid.mk hG
    have HII := Hid.mk hI
    have HDD := Hid.mk hD
    have HGD := Hid.mk hgd
    have HPS := Hid.mk (fun W => packsuper_any W G I D hgd)
    have HSE : Hid (((strOfNums (superL G I D)).toList == (strOfNums xs).toList) = false) := Hid.mk (by rw [str_eqB _ _ (superL_bound G I D) hx]; unfold eqB at heq ⊢; simp at heq ⊢; exact fun e => heq e.symm)
    have HB : Hid (Below w.heap.size w ((w.alloc (.cells #[.int .i64 0, .int .i64 0, .int .i64 0] 23)).alloc (.cells #[.int .i64 G, .int .i64 I, .int .i64 D] 23))) := Hid.mk (hB1.alloc (by simp) _)
    have HG0 : Hid (GAt w.heap.size 0 0 0 ((w.alloc (.cells #[.int .i64 0, .int .i64 0, .int .i64 0] 23)).alloc (.cells #[.int .i64 G, .int .i64 I, .int .i64 D] 23))) := Hid.mk ((GAt.new w 0 0 0).below ((Below.refl _ _).alloc (Nat.le_refl _) _) (by simp))
    have HG1 : Hid (GAt (w.heap.size + 1) G I D ((w.alloc (.cells #[.int .i64 0, .int .i64 0, .int .i64 0] 23)).alloc (.cells #[.int .i64 G, .int .i64 I, .int .i64 D] 23))) := Hid.mk (by have h := GAt.new (w.alloc (.cells #[.int .i64 0, .int .i64 0, .int .i64 0] 23)) G I D; simpa using h)
    have HBX := Hid.mk (HBA.out _ HB.out)
    clear hG hI hD hgd heq h hx hrb HBA hB1
    go_enter Tryz.func35, Tryz.ntmps35
    go_wp2_with (first
      | (go_at_call 74; refine (H8.out _ HB1.out).mono ?_; rintro e w3 ⟨rfl, hw⟩; subst w3; clear H8)
      | (go_at_call 74; refine (H12.out _ HB1.out).mono ?_; rintro e w3 ⟨rfl, hw⟩; subst w3; clear H12)
      | (go_at_call 74; refine (H16.out _ HB1.out).mono ?_; rintro e w3 ⟨rfl, hw⟩; subst w3; clear H16)
      | (go_at_call 5; refine (good_is _ G I D true HGD.out).mono ?_; rintro e w5 ⟨rfl, hB5⟩; have hg0 := HG0.out.below hB5 HG0.out.lt; have hg1 := HG1.out.below hB5 HG1.out.lt; obtain ⟨d0, d1, d2⟩ := hg0.g3; obtain ⟨k0, k1, k2⟩ := hg1.g3; have f0 := blk_free hg0 0; have f1 := blk_free hg0 1; have f2 := blk_free hg0 2; have HG05 := Hid.mk hg0; have HG15 := Hid.mk hg1; have HB5 := Hid.mk (HB.out.trans (hB5.mono HB.out.size)); have HX5 := Hid.mk (HBX.out.only (Only.of_new (fun _ => False) hB5) (fun _ _ _ h => h)); clear hB5 hg0 hg1))
    have hCV := conv_bytes w5 (some a) 1024 c xs HX5.out
    obtain ⟨SX, hSX⟩ : ∃ SX, SX = strOfNums xs := ⟨_, rfl⟩
    rw [← hSX] at hCV
    have HSX := Hid.mk hSX
    clear hSX
    have HK : Hid (∀ W', Below w5.heap.size w5.drew W' → G3 (w.heap.size + 1) G I D W' ∧ (convert 26 9 (.slice (some a) 1024 c)).run Tryz.prog W' = .ok (.string SX) W') := Hid.mk (fun W' hB => ⟨(GAt.below (W := w5.drew) HG15.out hB HG15.out.lt).g3, by
      rw [HSX.out]
      exact conv_bytes W' (some a) 1024 c xs (BAt.only (W := w5.drew) HX5.out (Only.of_new (fun _ => False) hB) (fun _ _ _ h => h))⟩)
    clear d0 d1 d2 k0 k1 k2 f0 f1 f2 hCV
    refine wp_region_held_drew (S := fun W' => G3 (w.heap.size + 1) G I D W' ∧ (convert 26 9 (.slice (some a) 1024 c)).run Tryz.prog W' = .ok (.string SX) W') (by kernel_rfl) (HK.out _ (Below.refl _ _)) (fun hH => ?_)
    change wpAnyH Tryz.prog Region.Mode.any _ _ _ 10 _ _ _
    refine takeH 0 19 (.bool true) rfl (by kernel_rfl) (by kernel_rfl) (by kernel_rfl) (by kernel_rfl) (fun _ _ _ h => h) (by kernel_rfl) (fun w hw => by kernel_rfl) hH ?_
    simp only [List.setIfInBounds_toArray, List.set_cons_zero, List.set_cons_succ]
    refine takeH 1 20 (.bool false) rfl (by kernel_rfl) (by kernel_rfl) (by kernel_rfl) (by kernel_rfl) (fun _ _ _ h => h) (by kernel_rfl) (fun w hw => by (try dsimp only at hw); go_simp) hH ?_
    simp only [List.setIfInBounds_toArray, List.set_cons_zero, List.set_cons_succ]
    refine takeH 2 21 (.bool false) rfl (by kernel_rfl) (by kernel_rfl) (by kernel_rfl) (by kernel_rfl) (fun _ _ _ h => h) (by kernel_rfl) (fun w hw => by kernel_rfl) hH ?_
    simp only [List.setIfInBounds_toArray, List.set_cons_zero, List.set_cons_succ]
    refine takeH 3 22 (geo G I D) rfl (by kernel_rfl) (by kernel_rfl) (by kernel_rfl) (by kernel_rfl) (fun _ _ _ h => h) (by kernel_rfl) (fun w hw => by (try dsimp only at hw); go_simp) hH ?_
    simp only [List.setIfInBounds_toArray, List.set_cons_zero, List.set_cons_succ]
    refine takeH 6 25 (.slice (some a) 1024 c) rfl (by kernel_rfl) (by kernel_rfl) (by kernel_rfl) (by kernel_rfl) (fun _ _ _ h => h) (by kernel_rfl) (fun w hw => by kernel_rfl) hH ?_
    simp only [List.setIfInBounds_toArray, List.set_cons_zero, List.set_cons_succ]
    refine takeH 7 26 (.string SX) rfl (by kernel_rfl) (by kernel_rfl) (by kernel_rfl) (by kernel_rfl) (fun _ _ _ h => h) (by kernel_rfl) (fun w hw => by exact exec_convert (x := .tmp 25) rfl (by kernel_rfl) hw.2) hH ?_
    simp only [List.setIfInBounds_toArray, List.set_cons_zero, List.set_cons_succ]
    refine stepH_call 4 23 rfl (by kernel_rfl) (by kernel_rfl) (by kernel_rfl) 75 #[.tmp 22] #[23] (by kernel_rfl) (enters_of Tryz.func75 (by kernel_rfl) rfl) #[geo G I D] (by kernel_rfl) (HPS.out _) ?_
    rintro e w6 ⟨v6, rfl, ho6, hB6⟩
    obtain ⟨vo, vc, rfl, hba6, -⟩ := owns_BAt ho6
    have hH6 := HK.out w6 hB6
    have hc6 := conv_bytes w6 vo 1024 vc _ hba6
    have HB6 := Hid.mk hB6
    refine ⟨_, rfl, hH6, ?_⟩
    simp only [List.setIfInBounds_toArray, List.set_cons_zero, List.set_cons_succ]
    refine stepH 5 24 (.string (strOfNums (superL G I D))) rfl (by kernel_rfl) (by kernel_rfl) (by kernel_rfl) (exec_convert (x := .tmp 23) rfl (by kernel_rfl) hc6) hH6 ?_
    simp only [List.setIfInBounds_toArray, List.set_cons_zero, List.set_cons_succ]
    refine takeH 8 27 (.bool true) rfl (by kernel_rfl) (by kernel_rfl) (by kernel_rfl) (by kernel_rfl) (fun _ _ _ h => h) (by kernel_rfl) (fun w hw => by (go_simp; rw [HSX.out]; have h := HSE.out; simp at h; exact h)) hH6 ?_
    simp only [List.setIfInBounds_toArray, List.set_cons_zero, List.set_cons_succ]
    refine takeH 9 28 (.bool true) rfl (by kernel_rfl) (by kernel_rfl) (by kernel_rfl) (by kernel_rfl) (fun _ _ _ h => h) (by kernel_rfl) (fun w hw => by kernel_rfl) hH6 ?_
    simp only [List.setIfInBounds_toArray, List.set_cons_zero, List.set_cons_succ]
    refine wpAnyH_done (by kernel_rfl) ?_ _
    have hg05 : GAt w.heap.size 0 0 0 w6 := GAt.below (W := w5.drew) HG05.out HB6.out HG05.out.lt
    have hg15 : GAt (w.heap.size + 1) G I D w6 := GAt.below (W := w5.drew) HG15.out HB6.out HG15.out.lt
    obtain ⟨e0, e1, e2⟩ := hg05.g3
    obtain ⟨k0, k1, k2⟩ := hg15.g3
    have f0 := blk_free hg05 0
    have f1 := blk_free hg05 1
    have f2 := blk_free hg05 2
    have HBE := Hid.mk (HB5.out.drew.trans (HB6.out.mono HB5.out.size))
    clear hH hH6 HK hc6 hba6 ho6 hB6 HPS hg05 hg15
    go_wp2
    refine bodyPost_ret (v := .tuple #[geo 0 0 0, .bool false]) (by simp [results, Tryz.results35, go_sem, e0, e1, e2]) rfl ⟨by rw [HR.out.1, HRB.out], ?_⟩
    exact (((HBE.out.setCell (p := ⟨w.heap.size, 0, none⟩) (Nat.le_refl _) _).setCell (p := ⟨w.heap.size, 1, none⟩) (Nat.le_refl _) _).setCell (p := ⟨w.heap.size, 2, none⟩) (Nat.le_refl _) _)
set_option maxRecDepth 100000 in
set_option maxHeartbeats 4000000 in
theorem rsuper_yes (w : World) (a : Addr) (c : Nat) (xs : List Int) (h : BAt w (some a) 1024 xs) (hx : ∀ x ∈ xs, 0 ≤ x ∧ x ≤ 255) (hgd : good (gOf xs) (iOf xs) (dOf xs) = true) (heq : eqB xs (superL (gOf xs) (iOf xs) (dOf xs)) = true) :
    Calls Tryz.prog 35 #[.slice (some a) 1024 c] w fun e w' => e = .returned (.tuple #[rdV xs, .bool (rdB xs)]) ∧ Below w.heap.size w w' := by
    have hrb : rdB xs = true := by unfold rdB; rw [h.1, hgd, heq]; rfl
    have HR := Hid.mk (rd_yes hrb)
    have HRB := Hid.mk hrb
    have HX := Hid.mk hx
    have HBA : Hid (∀ W, Below w.heap.size w W → BAt W (some a) 1024 xs) := Hid.mk (fun W hB => h.only (Only.of_new (fun _ => False) hB) (fun _ _ _ h => h))
    have H8 : Hid (∀ W, Below w.heap.size w W → Calls Tryz.prog 74 #[.slice (some a) 1024 c, .int .i64 8, .int .i64 4] W fun e w' => e = .returned (.int .i64 (gOf xs)) ∧ w' = W) := Hid.mk (fun W hB => rnum_any W a 1024 c 8 xs (HBA.out W hB) HX.out (by omega) (by omega))
    have H12 : Hid (∀ W, Below w.heap.size w W → Calls Tryz.prog 74 #[.slice (some a) 1024 c, .int .i64 12, .int .i64 4] W fun e w' => e = .returned (.int .i64 (iOf xs)) ∧ w' = W) := Hid.mk (fun W hB => rnum_any W a 1024 c 12 xs (HBA.out W hB) HX.out (by omega) (by omega))
    have H16 : Hid (∀ W, Below w.heap.size w W → Calls Tryz.prog 74 #[.slice (some a) 1024 c, .int .i64 16, .int .i64 4] W fun e w' => e = .returned (.int .i64 (dOf xs)) ∧ w' = W) := Hid.mk (fun W hB => rnum_any W a 1024 c 16 xs (HBA.out W hB) HX.out (by omega) (by omega))
    have hB1 : Below w.heap.size w (w.alloc (.cells #[.int .i64 0, .int .i64 0, .int .i64 0] 23)) := (Below.refl _ w).alloc (Nat.le_refl _) _
    have HB1 := Hid.mk hB1
    generalize hG : gOf xs = G at *
    generalize hI : iOf xs = I at *
    generalize hD : dOf xs = D at *
    have HGG := Hid.mk hG
    have HII := Hid.mk hI
    have HDD := Hid.mk hD
    have HGD := Hid.mk hgd
    have HPS := Hid.mk (fun W => packsuper_any W G I D hgd)
    have HSE : Hid (((strOfNums (superL G I D)).toList == (strOfNums xs).toList) = true) := Hid.mk (by rw [str_eqB _ _ (superL_bound G I D) hx]; unfold eqB at heq ⊢; simp at heq ⊢; exact heq.symm)
    have HB : Hid (Below w.heap.size w ((w.alloc (.cells #[.int .i64 0, .int .i64 0, .int .i64 0] 23)).alloc (.cells #[.int .i64 G, .int .i64 I, .int .i64 D] 23))) := Hid.mk (hB1.alloc (by simp) _)
    have HG0 : Hid (GAt w.heap.size 0 0 0 ((w.alloc (.cells #[.int .i64 0, .int .i64 0, .int .i64 0] 23)).alloc (.cells #[.int .i64 G, .int .i64 I, .int .i64 D] 23))) := Hid.mk ((GAt.new w 0 0 0).below ((Below.refl _ _).alloc (Nat.le_refl _) _) (by simp))
    have HG1 : Hid (GAt (w.heap.size + 1) G I D ((w.alloc (.cells #[.int .i64 0, .int .i64 0, .int .i64 0] 23)).alloc (.cells #[.int .i64 G, .int .i64 I, .int .i64 D] 23))) := Hid.mk (by have h := GAt.new (w.alloc (.cells #[.int .i64 0, .int .i64 0, .int .i64 0] 23)) G I D; simpa using h)
    have HBX := Hid.mk (HBA.out _ HB.out)
    clear hG hI hD hgd heq h hx hrb HBA hB1
    go_enter Tryz.func35, Tryz.ntmps35
    go_wp2_with (first
      | (go_at_call 74; refine (H8.out _ HB1.out).mono ?_; rintro e w3 ⟨rfl, hw⟩; subst w3; clear H8)
      | (go_at_call 74; refine (H12.out _ HB1.out).mono ?_; rintro e w3 ⟨rfl, hw⟩; subst w3; clear H12)
      | (go_at_call 74; refine (H16.out _ HB1.out).mono ?_; rintro e w3 ⟨rfl, hw⟩; subst w3; clear H16)
      | (go_at_call 5; refine (good_is _ G I D true HGD.out).mono ?_; rintro e w5 ⟨rfl, hB5⟩; have hg0 := HG0.out.below hB5 HG0.out.lt; have hg1 := HG1.out.below hB5 HG1.out.lt; obtain ⟨d0, d1, d2⟩ := hg0.g3; obtain ⟨k0, k1, k2⟩ := hg1.g3; have f0 := blk_free hg0 0; have f1 := blk_free hg0 1; have f2 := blk_free hg0 2; have HG05 := Hid.mk hg0; have HG15 := Hid.mk hg1; have HB5 := Hid.mk (HB.out.trans (hB5.mono HB.out.size)); have HX5 := Hid.mk (HBX.out.only (Only.of_new (fun _ => False) hB5) (fun _ _ _ h => h)); clear hB5 hg0 hg1))
    have hCV := conv_bytes w5 (some a) 1024 c xs HX5.out
    obtain ⟨SX, hSX⟩ : ∃ SX, SX = strOfNums xs := ⟨_, rfl⟩
    rw [← hSX] at hCV
    have HSX := Hid.mk hSX
    clear hSX
    have HK : Hid (∀ W', Below w5.heap.size w5.drew W' → G3 (w.heap.size + 1) G I D W' ∧ (convert 26 9 (.slice (some a) 1024 c)).run Tryz.prog W' = .ok (.string SX) W') := Hid.mk (fun W' hB => ⟨(GAt.below (W := w5.drew) HG15.out hB HG15.out.lt).g3, by
      rw [HSX.out]
      exact conv_bytes W' (some a) 1024 c xs (BAt.only (W := w5.drew) HX5.out (Only.of_new (fun _ => False) hB) (fun _ _ _ h => h))⟩)
    clear d0 d1 d2 k0 k1 k2 f0 f1 f2 hCV
    refine wp_region_held_drew (S := fun W' => G3 (w.heap.size + 1) G I D W' ∧ (convert 26 9 (.slice (some a) 1024 c)).run Tryz.prog W' = .ok (.string SX) W') (by kernel_rfl) (HK.out _ (Below.refl _ _)) (fun hH => ?_)
    change wpAnyH Tryz.prog Region.Mode.any _ _ _ 10 _ _ _
    refine takeH 0 19 (.bool true) rfl (by kernel_rfl) (by kernel_rfl) (by kernel_rfl) (by kernel_rfl) (fun _ _ _ h => h) (by kernel_rfl) (fun w hw => by kernel_rfl) hH ?_
    simp only [List.setIfInBounds_toArray, List.set_cons_zero, List.set_cons_succ]
    refine takeH 1 20 (.bool false) rfl (by kernel_rfl) (by kernel_rfl) (by kernel_rfl) (by kernel_rfl) (fun _ _ _ h => h) (by kernel_rfl) (fun w hw => by (try dsimp only at hw); go_simp) hH ?_
    simp only [List.setIfInBounds_toArray, List.set_cons_zero, List.set_cons_succ]
    refine takeH 2 21 (.bool false) rfl (by kernel_rfl) (by kernel_rfl) (by kernel_rfl) (by kernel_rfl) (fun _ _ _ h => h) (by kernel_rfl) (fun w hw => by kernel_rfl) hH ?_
    simp only [List.setIfInBounds_toArray, List.set_cons_zero, List.set_cons_succ]
    refine takeH 3 22 (geo G I D) rfl (by kernel_rfl) (by kernel_rfl) (by kernel_rfl) (by kernel_rfl) (fun _ _ _ h => h) (by kernel_rfl) (fun w hw => by (try dsimp only at hw); go_simp) hH ?_
    simp only [List.setIfInBounds_toArray, List.set_cons_zero, List.set_cons_succ]
    refine takeH 6 25 (.slice (some a) 1024 c) rfl (by kernel_rfl) (by kernel_rfl) (by kernel_rfl) (by kernel_rfl) (fun _ _ _ h => h) (by kernel_rfl) (fun w hw => by kernel_rfl) hH ?_
    simp only [List.setIfInBounds_toArray, List.set_cons_zero, List.set_cons_succ]
    refine takeH 7 26 (.string SX) rfl (by kernel_rfl) (by kernel_rfl) (by kernel_rfl) (by kernel_rfl) (fun _ _ _ h => h) (by kernel_rfl) (fun w hw => by exact exec_convert (x := .tmp 25) rfl (by kernel_rfl) hw.2) hH ?_
    simp only [List.setIfInBounds_toArray, List.set_cons_zero, List.set_cons_succ]
    refine stepH_call 4 23 rfl (by kernel_rfl) (by kernel_rfl) (by kernel_rfl) 75 #[.tmp 22] #[23] (by kernel_rfl) (enters_of Tryz.func75 (by kernel_rfl) rfl) #[geo G I D] (by kernel_rfl) (HPS.out _) ?_
    rintro e w6 ⟨v6, rfl, ho6, hB6⟩
    obtain ⟨vo, vc, rfl, hba6, -⟩ := owns_BAt ho6
    have hH6 := HK.out w6 hB6
    have hc6 := conv_bytes w6 vo 1024 vc _ hba6
    have HB6 := Hid.mk hB6
    refine ⟨_, rfl, hH6, ?_⟩
    simp only [List.setIfInBounds_toArray, List.set_cons_zero, List.set_cons_succ]
    refine stepH 5 24 (.string (strOfNums (superL G I D))) rfl (by kernel_rfl) (by kernel_rfl) (by kernel_rfl) (exec_convert (x := .tmp 23) rfl (by kernel_rfl) hc6) hH6 ?_
    simp only [List.setIfInBounds_toArray, List.set_cons_zero, List.set_cons_succ]
    refine takeH 8 27 (.bool false) rfl (by kernel_rfl) (by kernel_rfl) (by kernel_rfl) (by kernel_rfl) (fun _ _ _ h => h) (by kernel_rfl) (fun w hw => by (go_simp; rw [HSX.out]; have h := HSE.out; simp at h; exact h)) hH6 ?_
    simp only [List.setIfInBounds_toArray, List.set_cons_zero, List.set_cons_succ]
    refine takeH 9 28 (.bool false) rfl (by kernel_rfl) (by kernel_rfl) (by kernel_rfl) (by kernel_rfl) (fun _ _ _ h => h) (by kernel_rfl) (fun w hw => by kernel_rfl) hH6 ?_
    simp only [List.setIfInBounds_toArray, List.set_cons_zero, List.set_cons_succ]
    refine wpAnyH_done (by kernel_rfl) ?_ _
    have hg05 : GAt w.heap.size 0 0 0 w6 := GAt.below (W := w5.drew) HG05.out HB6.out HG05.out.lt
    have hg15 : GAt (w.heap.size + 1) G I D w6 := GAt.below (W := w5.drew) HG15.out HB6.out HG15.out.lt
    obtain ⟨e0, e1, e2⟩ := hg05.g3
    obtain ⟨k0, k1, k2⟩ := hg15.g3
    have f0 := blk_free hg05 0
    have f1 := blk_free hg05 1
    have f2 := blk_free hg05 2
    have HBE := Hid.mk (HB5.out.drew.trans (HB6.out.mono HB5.out.size))
    clear hH hH6 HK hc6 hba6 ho6 hB6 HPS hg05 hg15
    go_wp2
    refine bodyPost_ret (v := .tuple #[geo G I D, .bool true]) (by simp [results, Tryz.results35, go_sem, e0, e1, e2]) rfl ⟨?_, ?_⟩
    · rw [HR.out.1, HRB.out]
    · exact (((HBE.out.setCell (p := ⟨w.heap.size, 0, none⟩) (Nat.le_refl _) _).setCell (p := ⟨w.heap.size, 1, none⟩) (Nat.le_refl _) _).setCell (p := ⟨w.heap.size, 2, none⟩) (Nat.le_refl _) _)
set_option maxRecDepth 100000 in
theorem rsuper_any (w : World) (ao : Option Addr) (n c : Nat) (xs : List Int) (h : BAt w ao n xs) (hx : ∀ x ∈ xs, 0 ≤ x ∧ x ≤ 255) :
    Calls Tryz.prog 35 #[.slice ao n c] w fun e w' => e = .returned (.tuple #[rdV xs, .bool (rdB xs)]) ∧ Below w.heap.size w w' := by
  by_cases hn : n = 1024
  · subst hn
    obtain ⟨a, rfl, -⟩ := h.at 0 (by omega)
    cases hgd : good (gOf xs) (iOf xs) (dOf xs) with
    | false => exact rsuper_bad w a c xs h hx hgd
    | true =>
      cases heq : eqB xs (superL (gOf xs) (iOf xs) (dOf xs)) with
      | false => exact rsuper_other w a c xs h hx hgd heq
      | true => exact rsuper_yes w a c xs h hx hgd heq
  · have hb : rdB xs = false := by unfold rdB; rw [h.1, decide_eq_false hn]; rfl
    rw [(rd_no hb).1, hb]
    exact rsuper_short w ao n c hn
end Sup
end Go.Proofs.YtejnmpnioeamhaaGreat
namespace Go.Proofs.YtejnmpnioeamhaaGreat
open Go Go.Proofs Go.RowKit Go.Shelf
namespace Sup
theorem numL_leL (n : Int) (h0 : 0 ≤ n) (h1 : n < 4294967296) : numL (leL n 4) = n := by
  have e : leL n 4 = [n % 256, n / 256 % 256, n / 65536 % 256, n / 16777216 % 256] := by
    simp [leL, List.range_succ]
  rw [e]
  simp only [numL]
  omega
set_option maxRecDepth 100000 in
theorem super_parts (G I D : Int) : gOf (superL G I D) = numL (leL G 4) ∧ iOf (superL G I D) = numL (leL I 4) ∧ dOf (superL G I D) = numL (leL D 4) := by
  have e : superL G I D = lockL ++ (leL G 4 ++ (leL I 4 ++ (leL D 4 ++ (leL (sumL (hdrL G I D)) 4 ++ zeros 1000)))) := by simp [superL, hdrL]
  have l8 : lockL.length = 8 := rfl
  refine ⟨?_, ?_, ?_⟩
  · unfold gOf
    rw [e, List.drop_left' l8, List.take_left' (leL_length _ _)]
  · unfold iOf
    rw [e, ← List.append_assoc lockL, List.drop_left' (by simp [l8, leL_length]), List.take_left' (leL_length _ _)]
  · unfold dOf
    rw [e, ← List.append_assoc lockL, ← List.append_assoc (lockL ++ leL G 4), List.drop_left' (by simp [l8, leL_length]), List.take_left' (leL_length _ _)]
set_option maxRecDepth 100000 in
theorem super_reads {G I D : Int} (hg : good G I D = true) : rdB (superL G I D) = true ∧ rdV (superL G I D) = geo G I D ∧ rdE (superL G I D) = 0 := by
  have hb := good_iff.1 hg
  obtain ⟨h1, h2, h3⟩ := super_parts G I D
  rw [numL_leL G (by omega) (by omega)] at h1
  rw [numL_leL I (by omega) (by omega)] at h2
  rw [numL_leL D (by omega) (by omega)] at h3
  have h : rdB (superL G I D) = true := by
    unfold rdB
    rw [h1, h2, h3, hg, superL_length]
    simp [eqB]
  refine ⟨h, ?_, (rd_yes h).2⟩
  rw [(rd_yes h).1, h1, h2, h3]
end Sup
end Go.Proofs.YtejnmpnioeamhaaGreat
