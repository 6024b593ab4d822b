/-
  copy between rows; row of the program.
-/
import Derived.Test.YtjhfkcngaknbdaaSupMask
namespace Go.Proofs.Ytjhfkcngaknbdaa
open Go Go.Proofs Go.RowKit Go.Shelf
namespace Sup
set_option maxRecDepth 100000 in
/-- copy(b, s) into a row that is known. -/
theorem copy_run (W : World) (g o dLen dCap : Nat) (xs ys : List Int) (ao : Option Addr) (n c : Nat) (h : RAt W g xs) (hb : BAt W ao n ys) (hnone : ao = none → n = 0 ∧ c = 0) (hl : o + dLen ≤ xs.length) :
    ∃ W', (Builtin.copy_ #[39, 39] 3 #[.slice (some ⟨g, o, none⟩) dLen dCap, .slice ao n c]).run Try.prog W = .ok (.int .i64 (min n dLen : Nat)) W' ∧ RAt W' g (splice xs o (ys.take (min n dLen))) ∧ Only (fun k => k = g) W W' := by
  obtain ⟨i0, hi, hz0, hz1, hz2⟩ := info5p
  cases ao with
  | none =>
    obtain ⟨rfl, rfl⟩ := hnone rfl
    refine ⟨W, ?_, ?_, Only.refl _ _⟩
    · rw [run_copy_nil (P := Try.prog) W 39 39 3 5 ⟨g, o, none⟩ dLen dCap Try.underlying39 (by rw [hi]; simp)]
      simp
      rfl
    · simpa [splice] using h
  | some a =>
    have hyl := hb.1
    have hcl : (By (ys.take (min n dLen))).length = min n dLen := by rw [By_length, List.length_take]; omega
    have hr := run_copy_row (P := Try.prog) W 39 39 3 5 g o dLen dCap a n c (By xs).toArray 5 (By (ys.take (min n dLen))) Try.underlying39 (by rw [hi]; simp [hz1]) h hcl (fun j u hj => by
      have hjl := (List.getElem?_eq_some_iff.1 hj).1
      rw [By_length] at hjl
      rw [By_get _ j hjl] at hj
      have hj2 : j < min n dLen := by simp at hjl; omega
      obtain ⟨a', e, hc⟩ := hb.at j (by omega)
      cases e
      rw [hc]
      have e : (ys.take (min n dLen)).getD j 0 = ys.getD j 0 := by simp only [List.getD, List.getElem?_take, if_pos hj2]
      rwa [e] at hj) (by rw [hcl]; simp [By_length]; omega) (By_one _)
    refine ⟨W.setRow g (By (splice xs o (ys.take (min n dLen)))).toArray, hr.trans ?_, setRow_heap W g _ _ 5 _ h, (Only.refl (fun k => k = g) W).setRow (.inl rfl) _⟩
    rw [hcl]
    have e : (By xs).toArray.toList.take o ++ By (ys.take (min n dLen)) ++ (By xs).toArray.toList.drop (o + min n dLen) = By (splice xs o (ys.take (min n dLen))) := by
      have : (ys.take (min n dLen)).length = min n dLen := by simp; omega
      unfold splice
      rw [this]
      simp [By]
    rw [e]
    rfl
set_option maxRecDepth 100000 in
theorem bytesfor_any (w : World) (n : Nat) (hn : n ≤ 8000) : Calls Try.prog 53 #[.int .i64 n] w fun e w' => e = .returned (.int .i64 (((n + 7) / 8 : Nat) : Int)) ∧ w' = w := by
  have h1 : IntKind.i64.wrap ((n : Int) + 8) = (n : Int) + 8 := by rw [IntKind.wrap_i64]; omega
  have h2 : IntKind.i64.wrap ((n : Int) + 8 - 1) = (n : Int) + 8 - 1 := by rw [IntKind.wrap_i64]; omega
  have h3 : ((n : Int) + 8 - 1) / 8 = (((n + 7) / 8 : Nat) : Int) := by omega
  have H3 := Hid.mk h3
  clear h3
  go_enter Try.func53, Try.ntmps53
  go_wp2
  go_ret
  exact ⟨by rw [← H3.out]; rfl, rfl⟩
set_option maxRecDepth 100000 in
theorem and_low (x : Int) (v : Nat) (hv : v < 8) (hx : 0 ≤ x ∧ x ≤ 255) : bits BinOp.and IntKind.u8 x (2 ^ v - 1) = x % 2 ^ v := by
  have hp : (2 : Int) ^ v ≤ 128 ∧ 1 ≤ (2 : Int) ^ v := by
    match v, hv with
    | 0, _ => decide
    | 1, _ => decide
    | 2, _ => decide
    | 3, _ => decide
    | 4, _ => decide
    | 5, _ => decide
    | 6, _ => decide
    | 7, _ => decide
  rw [u8_and x _ hx.1 (by omega) (by omega) (by omega)]
  obtain ⟨X, rfl⟩ := Int.eq_ofNat_of_zero_le hx.1
  have e : ((2 : Int) ^ v - 1).toNat = 2 ^ v - 1 := by
    have h1 : ((2 : Int) ^ v) = ((2 ^ v : Nat) : Int) := by simp
    rw [h1]
    omega
  rw [e, Int.toNat_natCast, Nat.and_two_pow_sub_one_eq_mod]
  simp
theorem pow_byte (v : Nat) (hv : v < 8) : 1 ≤ (2 : Int) ^ v ∧ (2 : Int) ^ v ≤ 128 := by
  match v, hv with
  | 0, _ => decide
  | 1, _ => decide
  | 2, _ => decide
  | 3, _ => decide
  | 4, _ => decide
  | 5, _ => decide
  | 6, _ => decide
  | 7, _ => decide
set_option maxRecDepth 100000 in
set_option maxHeartbeats 2000000 in
theorem row_any (w : World) (ao : Option Addr) (n c : Nat) (ys : List Int) (hb : BAt w ao n ys) (hy : ∀ x ∈ ys, 0 ≤ x ∧ x ≤ 255) (hnone : ao = none → n = 0 ∧ c = 0) (N size : Nat) (hN : N ≤ 1000) (hs : (N + 7) / 8 ≤ size) (hs2 : size ≤ 1024) :
    Calls Try.prog 52 #[.slice ao n c, .int .i64 N, .int .i64 size] w fun e w' => ∃ g, e = .returned (.slice (some ⟨g, 0, none⟩) size size) ∧ RAt w' g (maskL ys N size) ∧ w.heap.size ≤ g ∧ Below w.heap.size w w' := by
  obtain ⟨g, hg⟩ : ∃ g, g = w.heap.size := ⟨_, rfl⟩
  have hr0 : RAt (w.alloc (.cells (By (zeros size)).toArray 5)) g (zeros size) := by rw [hg]; exact blk_new w _
  have hB0 : Below w.heap.size w (w.alloc (.cells (By (zeros size)).toArray 5)) := (Below.refl _ w).alloc (Nat.le_refl _) _
  obtain ⟨W2, r2, hr2, ho2⟩ := copy_run _ g 0 ((N + 7) / 8) size (zeros size) ys ao n c hr0 (hb.only (Only.of_new (fun _ => False) hB0) (fun _ _ _ h => h)) hnone (by rw [zeros_length]; omega)
  rw [pad_splice ys ((N + 7) / 8) size n _ hb.1 hs rfl] at hr2
  have hB2 : Below w.heap.size w W2 := hB0.trans (ho2.below hB0.size (fun k e => by rw [e, hg]; exact Nat.le_refl _))
  have hmk := make_run w size (by omega)
  rw [← hg] at hmk
  have HMK := Hid.mk hmk
  have HR2 := Hid.mk r2
  have HRW := Hid.mk hr2
  have HB2 := Hid.mk hB2
  have HGE := Hid.mk hg
  obtain ⟨bf, hbf⟩ : ∃ bf, bf = (N + 7) / 8 := ⟨_, rfl⟩
  have HBF : Hid (∀ w : World, Calls Try.prog 53 #[.int .i64 N] w fun e w' => e = .returned (.int .i64 (bf : Int)) ∧ w' = w) := Hid.mk (fun w => by rw [hbf]; exact bytesfor_any w N (by omega))
  rw [← hbf] at HR2 HRW
  have hbs : bf ≤ size := by omega
  obtain ⟨q, hq⟩ : ∃ q, q = N / 8 := ⟨_, rfl⟩
  obtain ⟨v, hv⟩ : ∃ v, v = N % 8 := ⟨_, rfl⟩
  have hqi : (N : Int) / 8 = (q : Int) := by omega
  have hvi : (N : Int) % 8 = (v : Int) := by omega
  have hv8 : v < 8 := by omega
  have HBQ := Hid.mk hbf
  have HQ := Hid.mk hq
  have HV := Hid.mk hv
  have hqs : v ≠ 0 → q < size := by omega
  clear hr0 hB0 r2 hr2 ho2 hB2 hmk hg hb hbf hq hv hs hnone
  by_cases h0 : v = 0
  · subst h0
    go_enter Try.func52, Try.ntmps52
    go_wp2_with (first
      | (at_make; refine wpList_make_known rfl (.tmp 9) (.tmp 9) 39 rfl _ _ _ _ rfl rfl HMK.out ?_)
      | (go_at_call 53; refine (HBF.out _).mono ?_; rintro e w3 ⟨rfl, hw⟩; subst w3)
      | (refine wpList_copy_known rfl (.tmp 14) (.tmp 15) 39 39 rfl _ _ _ _ rfl rfl HR2.out ?_))
    go_ret
    refine ⟨g, rfl, ?_, by rw [HGE.out]; exact Nat.le_refl _, HB2.out⟩
    have h := HRW.out
    rw [HBQ.out, show (N + 7) / 8 = N / 8 by have := HV.out; omega, mask_even _ _ _ HV.out.symm] at h
    exact h
  · have hv0 : ((v : Int) == 0) = false := by simp; omega
    have hv1 : ¬ ((v : Int) = 0) := by omega
    have hqs2 := hqs h0
    go_enter Try.func52, Try.ntmps52
    go_wp2_with (first
      | (at_make; refine wpList_make_known rfl (.tmp 9) (.tmp 9) 39 rfl _ _ _ _ rfl rfl HMK.out ?_)
      | (go_at_call 53; refine (HBF.out _).mono ?_; rintro e w3 ⟨rfl, hw⟩; subst w3)
      | (refine wpList_copy_known rfl (.tmp 14) (.tmp 15) 39 39 rfl _ _ _ _ rfl rfl HR2.out ?_))
    have hbq : bf = q + 1 := by have h1 := HBQ.out; have h2 := HQ.out; have h3 := HV.out; omega
    have hx := padL_get ys bf size q hqs2
    rw [if_pos (by omega)] at hx
    have hc1 : W2.cell? ⟨g, q, none⟩ = some (.int .u8 (ys.getD q 0)) := by
      rw [blk_cell HRW.out, ← hx]
      simpa using By_get (padL ys bf size) q (by rw [padL_length]; exact hqs2)
    have hc2 : W2.frozen? ⟨g, q, none⟩ = false := blk_free HRW.out q
    have hxb := getD_bound ys hy q
    have hal := and_low (ys.getD q 0) v hv8 hxb
    obtain ⟨x, hxe⟩ : ∃ x, x = ys.getD q 0 := ⟨_, rfl⟩
    rw [← hxe] at hc1 hxb hal
    have hpb : 1 ≤ (2 : Int) ^ v ∧ (2 : Int) ^ v ≤ 128 := pow_byte v hv8
    have hst : (Instr.storeAt 5 (.pointer (some ⟨g, q, none⟩)) (.int .u8 (bits BinOp.and IntKind.u8 x ((2 : Int) ^ v - 1)))).run Try.prog W2.drew = .ok () (W2.drew.setCell ⟨g, q, none⟩ (.int .u8 (bits BinOp.and IntKind.u8 x ((2 : Int) ^ v - 1)))) := by go_simp
    have HST := Hid.mk hst
    have HAL := Hid.mk hal
    have HXE := Hid.mk hxe
    have HQB := Hid.mk hbq
    clear hst hal hxe hx hbq hc2
    generalize hp : (2 : Int) ^ v = p at *
    have hpm : p % 256 = p := by omega
    have hpi : IntKind.u8.wrap p = p := by rw [IntKind.wrap_u8']; omega
    have hpj : IntKind.u8.wrap (p - 1) = p - 1 := by rw [IntKind.wrap_u8']; omega
    have hqi2 : Int.tdiv (N : Int) 8 = (q : Int) := by rw [Int.tdiv_eq_ediv_of_nonneg (by omega)]; exact hqi
    have hqn : ((q : Int)).toNat = q := by omega
    have hqw : IntKind.i64.wrap (q : Int) = q := by rw [IntKind.wrap_i64]; omega
    simp only [hvi]
    have hpw : IntKind.u8.wrap ((2 : Int) ^ v) = p := by rw [hp, hpi]
    have HP2 := Hid.mk hp
    clear hp
    have hc1' : W2.drew.cell? ⟨g, q, none⟩ = some (.int .u8 x) := hc1
    refine wp_region_held_drew (S := fun _ => True) (by kernel_rfl) trivial (fun hH => ?_)
    change wpAnyH Try.prog Region.Mode.any _ _ _ 11 _ _ _
    refine takeH 0 21 (.slice (some ⟨g, 0, none⟩) size size) rfl (by kernel_rfl) (by kernel_rfl) (by kernel_rfl) (by kernel_rfl) (fun _ _ _ h => h) (by kernel_rfl) (fun w hw => by kernel_rfl) hH ?_
    simp only [List.setIfInBounds_toArray, List.set_cons_zero, List.set_cons_succ]
    refine takeH 1 22 (.int .i64 (N)) rfl (by kernel_rfl) (by kernel_rfl) (by kernel_rfl) (by kernel_rfl) (fun _ _ _ h => h) (by kernel_rfl) (fun w hw => by kernel_rfl) hH ?_
    simp only [List.setIfInBounds_toArray, List.set_cons_zero, List.set_cons_succ]
    refine takeH 2 23 (.int .i64 ((q : Int))) rfl (by kernel_rfl) (by kernel_rfl) (by kernel_rfl) (by kernel_rfl) (fun _ _ _ h => h) (by kernel_rfl) (fun w hw => by ((try dsimp only at hw); go_simp)) hH ?_
    simp only [List.setIfInBounds_toArray, List.set_cons_zero, List.set_cons_succ]
    refine takeH 3 24 (.pointer (some ⟨g, q, none⟩)) rfl (by kernel_rfl) (by kernel_rfl) (by kernel_rfl) (by kernel_rfl) (fun _ _ _ h => h) (by kernel_rfl) (fun w hw => by ((try dsimp only at hw); go_simp)) hH ?_
    simp only [List.setIfInBounds_toArray, List.set_cons_zero, List.set_cons_succ]
    refine takeH 5 26 (.int .i64 ((v : Int))) rfl (by kernel_rfl) (by kernel_rfl) (by kernel_rfl) (by kernel_rfl) (fun _ _ _ h => h) (by kernel_rfl) (fun w hw => by kernel_rfl) hH ?_
    simp only [List.setIfInBounds_toArray, List.set_cons_zero, List.set_cons_succ]
    refine takeH 6 27 (.int .u8 (p)) rfl (by kernel_rfl) (by kernel_rfl) (by kernel_rfl) (by kernel_rfl) (fun _ _ _ h => h) (by kernel_rfl) (fun w hw => by ((try dsimp only at hw); go_simp)) hH ?_
    simp only [List.setIfInBounds_toArray, List.set_cons_zero, List.set_cons_succ]
    refine takeH 7 28 (.int .u8 (p - 1)) rfl (by kernel_rfl) (by kernel_rfl) (by kernel_rfl) (by kernel_rfl) (fun _ _ _ h => h) (by kernel_rfl) (fun w hw => by ((try dsimp only at hw); go_simp)) hH ?_
    simp only [List.setIfInBounds_toArray, List.set_cons_zero, List.set_cons_succ]
    refine stepH 4 25 (.int .u8 x) rfl (by kernel_rfl) (by kernel_rfl) (by kernel_rfl) (by go_simp) trivial ?_
    simp only [List.setIfInBounds_toArray, List.set_cons_zero, List.set_cons_succ]
    refine takeH 8 29 (.int .u8 (bits BinOp.and IntKind.u8 x (p - 1))) rfl (by kernel_rfl) (by kernel_rfl) (by kernel_rfl) (by kernel_rfl) (fun _ _ _ h => h) (by kernel_rfl) (fun w hw => by ((try dsimp only at hw); go_simp)) trivial ?_
    simp only [List.setIfInBounds_toArray, List.set_cons_zero, List.set_cons_succ]
    refine takeH 9 30 (.pointer (some ⟨g, q, none⟩)) rfl (by kernel_rfl) (by kernel_rfl) (by kernel_rfl) (by kernel_rfl) (fun _ _ _ h => h) (by kernel_rfl) (fun w hw => by ((try dsimp only at hw); go_simp)) trivial ?_
    simp only [List.setIfInBounds_toArray, List.set_cons_zero, List.set_cons_succ]
    refine stepH_one 10 (by kernel_rfl) ?_
    refine opH_store 10 (W2.drew.setCell ⟨g, q, none⟩ (.int .u8 (bits BinOp.and IntKind.u8 x (p - 1)))) rfl (by kernel_rfl) (by kernel_rfl) (exec_store (p := .tmp 30) (x := .tmp 29) rfl (by kernel_rfl) (by kernel_rfl) HST.out) trivial ?_
    refine wpAnyH_done (by kernel_rfl) ?_ _
    clear hc1 HST
    go_wp2
    go_ret
    refine ⟨g, rfl, ?_, by rw [HGE.out]; exact Nat.le_refl _, HB2.out.drew.setCell (p := ⟨g, q, none⟩) (by rw [HGE.out]; exact Nat.le_refl _) _⟩
    have h : RAt (W2.drew.setCell ⟨g, q, none⟩ (.int .u8 (bits BinOp.and IntKind.u8 x (p - 1)))) g ((padL ys bf size).set q (bits BinOp.and IntKind.u8 x (p - 1))) := by
      unfold RAt
      rw [blk_set (show W2.drew.heap[g]? = _ from HRW.out), By_setArr]
    have e : (padL ys bf size).set q (bits BinOp.and IntKind.u8 x (p - 1)) = maskL ys N size := by
      rw [HAL.out, HXE.out, ← HP2.out, HQB.out, HQ.out, HV.out, mask_odd ys N size (by have := HQ.out; omega)]
    rwa [e] at h
end Sup
end Go.Proofs.Ytjhfkcngaknbdaa
