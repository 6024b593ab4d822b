/-
  EntrySpoilt: one entry of a block that is spoilt is told as free, and the others as they are.
-/
import Derived.Test.YtpdekpdlmfnndaaSpoil
namespace Go.Proofs.Ytpdekpdlmfnndaa
open Go Go.Proofs Go.RowKit Go.Shelf

theorem exec_dig {ev : Operand → Value} {oi : Oper} {x y : Operand} {w : World} (q : Nat) (hq : q < 10) (ho : oi.op = .slice 9 (.const (.string ⟨#[48, 49, 50, 51, 52, 53, 54, 55, 56, 57]⟩)) (some x) (some y) none) (hv : ev (.const (.string ⟨#[48, 49, 50, 51, 52, 53, 54, 55, 56, 57]⟩)) = .string ⟨#[48, 49, 50, 51, 52, 53, 54, 55, 56, 57]⟩) (hx : ev x = .int .i64 q) (hy : ev y = .int .i64 ((q : Int) + 1)) :
    (execOp ev oi).run Try.prog w = .ok (.value (.string (digS q))) w := by
  unfold execOp
  rw [ho]
  simp only [hx, hy, hv, Option.map]
  match q, hq with
  | 0, _ => rfl
  | 1, _ => rfl
  | 2, _ => rfl
  | 3, _ => rfl
  | 4, _ => rfl
  | 5, _ => rfl
  | 6, _ => rfl
  | 7, _ => rfl
  | 8, _ => rfl
  | 9, _ => rfl
theorem exec_cat {ev : Operand → Value} {oi : Oper} {x y : Operand} {u : TypeId} {w : World} (s t : ByteArray) (h : s.size + t.size ≤ 9223372036854775807) (ho : oi.op = .binOp .add 9 x y u) (hx : ev x = .string s) (hy : ev y = .string t) : (execOp ev oi).run Try.prog w = .ok (.value (.string (s ++ t))) w := by
  unfold execOp
  rw [ho]
  simp only [hx, hy]
  go_simp
theorem exec_quo {ev : Operand → Value} {oi : Oper} {x y : Operand} {u : TypeId} {w : World} (k : Nat) (hk : k < 32) (ho : oi.op = .binOp .quo 3 x y u) (hx : ev x = .int .i64 k) (hy : ev y = .int .i64 10) : (execOp ev oi).run Try.prog w = .ok (.value (.int .i64 ((k / 10 : Nat) : Int))) w := by
  unfold execOp
  rw [ho]
  simp only [hx, hy]
  go_simp
  rw [IntKind.wrap_i64]
  omega
theorem exec_rem {ev : Operand → Value} {oi : Oper} {x y : Operand} {u : TypeId} {w : World} (k : Nat) (ho : oi.op = .binOp .rem 3 x y u) (hx : ev x = .int .i64 k) (hy : ev y = .int .i64 10) : (execOp ev oi).run Try.prog w = .ok (.value (.int .i64 ((k % 10 : Nat) : Int))) w := by
  unfold execOp
  rw [ho]
  simp only [hx, hy]
  go_simp
  exact Int.tmod_eq_emod_of_nonneg (by omega)
theorem exec_inc {ev : Operand → Value} {oi : Oper} {x y : Operand} {u : TypeId} {w : World} (q : Nat) (hq : q < 32) (ho : oi.op = .binOp .add 3 x y u) (hx : ev x = .int .i64 q) (hy : ev y = .int .i64 1) : (execOp ev oi).run Try.prog w = .ok (.value (.int .i64 ((q : Int) + 1))) w := by
  unfold execOp
  rw [ho]
  simp only [hx, hy]
  go_simp
  rw [IntKind.wrap_i64]
  omega

theorem set_bound (xs : List Int) (h : ∀ x ∈ xs, 0 ≤ x ∧ x ≤ 255) (i : Nat) (y : Int) (hy : 0 ≤ y ∧ y ≤ 255) : ∀ x ∈ xs.set i y, 0 ≤ x ∧ x ≤ 255 := by
  intro x hx
  rcases List.mem_or_eq_of_mem_set hx with h' | h'
  · exact h x h'
  · rw [h']; exact hy
theorem LAt.belowN {W W' : World} {ao : Option Addr} {n : Nat} {xs : List Int} (h : LAt W ao n xs) (hB : Below W.heap.size W W') : LAt W' ao n xs := h.only (Only.of_new (fun _ => False) hB) (fun _ _ _ h => h)
theorem xor_zero (y : Int) (h : 0 ≤ y ∧ y ≤ 255) : bits BinOp.xor IntKind.u8 0 y = y := by
  obtain ⟨Y, rfl⟩ := Int.eq_ofNat_of_zero_le h.1
  have h2 := u8_xor_nat 0 Y (by omega) (by omega)
  simpa using h2

set_option maxRecDepth 100000 in
set_option maxHeartbeats 4000000 in
theorem spoilt_any (w : World) (ao : Option Addr) (n c : Nat) (xs : List Int) (h : LAt w ao n xs) (hn2 : n ≤ 9223372036854775807) (at_ y : Int) (hy : 0 ≤ y ∧ y ≤ 255) :
    Calls Try.prog 3 #[.slice ao n c, .int .i64 at_, .int .u8 y] w fun e w' => e = .returned (.bool true) ∧ Below w.heap.size w w' := by
  by_cases h1 : 32 < n
  · go_enter Try.func3, Try.ntmps3
    go_wp2_with (go_at_call 8; refine (alive_any _).mono ?_; rintro e W2 ⟨rfl, hB⟩; have HB := Hid.mk hB; clear hB)
    go_ret
    exact ⟨rfl, HB.out⟩
  by_cases h2 : at_ < 0
  · go_enter Try.func3, Try.ntmps3
    go_wp2_with (go_at_call 8; refine (alive_any _).mono ?_; rintro e W2 ⟨rfl, hB⟩; have HB := Hid.mk hB; clear hB)
    go_ret
    exact ⟨rfl, HB.out⟩
  by_cases h3 : 1023 < at_
  · go_enter Try.func3, Try.ntmps3
    go_wp2_with (go_at_call 8; refine (alive_any _).mono ?_; rintro e W2 ⟨rfl, hB⟩; have HB := Hid.mk hB; clear hB)
    go_ret
    exact ⟨rfl, HB.out⟩
  obtain ⟨t, rfl⟩ : ∃ t : Nat, at_ = t := ⟨at_.toNat, by omega⟩
  have hn : n ≤ 32 := by omega
  have ht : t ≤ 1023 := by omega
  obtain ⟨B, hBe⟩ : ∃ B, B = w.heap.size := ⟨_, rfl⟩
  rw [← hBe]
  have HLA : Hid (∀ W, Below B w W → LAt W ao n xs) := Hid.mk (fun W hB => h.belowN (by rw [hBe] at hB; exact hB))
  have HBs : Hid (B ≤ w.heap.size) := Hid.mk (by omega)
  have HAL : Hid (Calls Try.prog 8 #[] w fun e w' => e = .returned (.bool true) ∧ Below B w w') := Hid.mk (by rw [hBe]; exact alive_any w)
  clear h1 h2 h3 h hBe hn2
  go_enter Try.func3, Try.ntmps3
  go_wp2_with (go_at_call 8; refine HAL.out.mono ?_; rintro e W2 ⟨rfl, hB⟩; have HB := Hid.mk hB; clear hB)
  go_loopw [8, 9] (fun e i wr => ∃ k : Nat, k ≤ n ∧ i = .int .i64 k ∧ wr.ownsRow B 26 2 e k (Ey (namedL xs k)) ∧ Below B w wr ∧ ∀ j, j < k → 1 ≤ xs.getD j 0 ∧ xs.getD j 0 ≤ 4294967295) (fun _ i _ => n - (intOf i).toNat)
  case atStart => exact ⟨0, by omega, rfl, World.ownsRow_nil _ _ 26 2, HB.out, fun j hj => by omega⟩
  case round =>
    obtain ⟨k, hk, rfl, ho, hb, hall⟩ := hrel
    have HO := Hid.mk ho
    have HBK := Hid.mk hb
    have HA := Hid.mk hall
    clear ho hb hall HB HAL
    by_cases hlt : k < n
    · obtain ⟨a, e, hcell⟩ := (HLA.out wr HBK.out).at k hlt
      subst e
      have HCE : Hid (∀ W, Below B w W → W.cell? (a.add k) = some (.int .i64 (xs.getD k 0))) := Hid.mk (fun W hW => by
        obtain ⟨a', e, h⟩ := (HLA.out W hW).at k hlt
        cases e
        exact h)
      have HSN := Hid.mk (namedL_snoc xs k)
      have HA2 : Hid (1 ≤ xs.getD k 0 ∧ xs.getD k 0 ≤ 4294967295 → ∀ j, j < k + 1 → 1 ≤ xs.getD j 0 ∧ xs.getD j 0 ≤ 4294967295) := Hid.mk (fun hs j hj => by
        rcases Nat.lt_or_ge j k with h | h
        · exact HA.out j h
        · obtain rfl : j = k := by omega
          exact hs)
      generalize xs.getD k 0 = x at *
      by_cases hx1 : x < 1
      · go_wp2
        go_ret
        exact ⟨rfl, HBK.out⟩
      by_cases hx2 : 4294967295 < x
      · go_wp2
        go_ret
        exact ⟨rfl, HBK.out⟩
      · have HA3 := Hid.mk (HA2.out (by omega))
        have HS1 : Hid (nS.size + (digS (k / 10)).size ≤ 9223372036854775807) := Hid.mk (show 1 + 1 ≤ 9223372036854775807 by omega)
        have HS2 : Hid ((nS ++ digS (k / 10)).size + (digS (k % 10)).size ≤ 9223372036854775807) := Hid.mk (by rw [ByteArray.size_append]; exact (show 1 + 1 + 1 ≤ 9223372036854775807 by omega))
        obtain ⟨v5, W5, hr5, ho5, hB5⟩ := appende_run wr.drew B u8 k _ x (nameOf k) HO.out (Nat.le_trans HBs.out HBK.out.size) (by omega)
        rw [← HSN.out] at ho5
        have HR5 : Hid ((Builtin.append_ #[24, 24] 24 #[u8, .slice (some ⟨wr.heap.size, 0, none⟩) 1 1]).run Try.prog (wr.drew.alloc (.cells (entC x (nameOf k)).toArray 26)) = .ok v5 W5) := Hid.mk hr5
        have HO5 := Hid.mk ho5
        have HB5 := Hid.mk (HBK.out.drew.trans hB5)
        have HB4 : Hid (Below B w (wr.drew.alloc (.cells (entC x (nameOf k)).toArray 26))) := Hid.mk (HBK.out.drew.alloc (Nat.le_trans HBs.out HBK.out.size) _)
        clear hr5 ho5 hB5
        go_upto_region 10 with fail
        clear hcell
        refine wp_region_held_drew (S := Below B w) (by kernel_rfl) HBK.out.drew (fun hH => ?_)
        change wpAnyH Try.prog Region.Mode.any _ _ _ 23 _ _ _
        refine takeH 0 51 (u8) rfl (by kernel_rfl) (by kernel_rfl) (by kernel_rfl) (by kernel_rfl) (fun _ _ _ h => h) (by kernel_rfl) (fun w hw => by kernel_rfl) hH ?_
        simp only [List.setIfInBounds_toArray, List.set_cons_zero, List.set_cons_succ]
        refine takeH 1 52 (.slice (some a) n c) rfl (by kernel_rfl) (by kernel_rfl) (by kernel_rfl) (by kernel_rfl) (fun _ _ _ h => h) (by kernel_rfl) (fun w hw => by kernel_rfl) hH ?_
        simp only [List.setIfInBounds_toArray, List.set_cons_zero, List.set_cons_succ]
        refine takeH 2 53 (.int .i64 k) rfl (by kernel_rfl) (by kernel_rfl) (by kernel_rfl) (by kernel_rfl) (fun _ _ _ h => h) (by kernel_rfl) (fun w hw => by kernel_rfl) hH ?_
        simp only [List.setIfInBounds_toArray, List.set_cons_zero, List.set_cons_succ]
        refine takeH 3 54 (.pointer (some (a.add k))) rfl (by kernel_rfl) (by kernel_rfl) (by kernel_rfl) (by kernel_rfl) (fun _ _ _ h => h) (by kernel_rfl) (fun w hw => by go_simp) hH ?_
        simp only [List.setIfInBounds_toArray, List.set_cons_zero, List.set_cons_succ]
        refine takeH 4 55 (.int .i64 x) rfl (by kernel_rfl) (by kernel_rfl) (by kernel_rfl) (by kernel_rfl) (fun _ _ _ h => h) (by kernel_rfl) (fun w hw => by have h := HCE.out _ hw; go_simp) hH ?_
        simp only [List.setIfInBounds_toArray, List.set_cons_zero, List.set_cons_succ]
        refine takeH 5 56 (.int .i64 k) rfl (by kernel_rfl) (by kernel_rfl) (by kernel_rfl) (by kernel_rfl) (fun _ _ _ h => h) (by kernel_rfl) (fun w hw => by kernel_rfl) hH ?_
        simp only [List.setIfInBounds_toArray, List.set_cons_zero, List.set_cons_succ]
        refine takeH 6 57 (.int .i64 ((k / 10 : Nat) : Int)) rfl (by kernel_rfl) (by kernel_rfl) (by kernel_rfl) (by kernel_rfl) (fun _ _ _ h => h) (by kernel_rfl) (fun w hw => by exact exec_quo (x := .tmp 56) (y := .const (.int .i64 10)) k (by omega) rfl (by kernel_rfl) (by kernel_rfl)) hH ?_
        simp only [List.setIfInBounds_toArray, List.set_cons_zero, List.set_cons_succ]
        refine takeH 7 58 (.int .i64 k) rfl (by kernel_rfl) (by kernel_rfl) (by kernel_rfl) (by kernel_rfl) (fun _ _ _ h => h) (by kernel_rfl) (fun w hw => by kernel_rfl) hH ?_
        simp only [List.setIfInBounds_toArray, List.set_cons_zero, List.set_cons_succ]
        refine takeH 8 59 (.int .i64 ((k / 10 : Nat) : Int)) rfl (by kernel_rfl) (by kernel_rfl) (by kernel_rfl) (by kernel_rfl) (fun _ _ _ h => h) (by kernel_rfl) (fun w hw => by exact exec_quo (x := .tmp 58) (y := .const (.int .i64 10)) k (by omega) rfl (by kernel_rfl) (by kernel_rfl)) hH ?_
        simp only [List.setIfInBounds_toArray, List.set_cons_zero, List.set_cons_succ]
        refine takeH 9 60 (.int .i64 (((k / 10 : Nat) : Int) + 1)) rfl (by kernel_rfl) (by kernel_rfl) (by kernel_rfl) (by kernel_rfl) (fun _ _ _ h => h) (by kernel_rfl) (fun w hw => by exact exec_inc (x := .tmp 59) (y := .const (.int .i64 1)) (k / 10) (by omega) rfl (by kernel_rfl) (by kernel_rfl)) hH ?_
        simp only [List.setIfInBounds_toArray, List.set_cons_zero, List.set_cons_succ]
        refine takeH 10 61 (.string (digS (k / 10))) rfl (by kernel_rfl) (by kernel_rfl) (by kernel_rfl) (by kernel_rfl) (fun _ _ _ h => h) (by kernel_rfl) (fun w hw => by exact exec_dig (x := .tmp 57) (y := .tmp 60) (k / 10) (by omega) rfl (by kernel_rfl) (by kernel_rfl) (by kernel_rfl)) hH ?_
        simp only [List.setIfInBounds_toArray, List.set_cons_zero, List.set_cons_succ]
        refine takeH 11 62 (.string (nS ++ digS (k / 10))) rfl (by kernel_rfl) (by kernel_rfl) (by kernel_rfl) (by kernel_rfl) (fun _ _ _ h => h) (by kernel_rfl) (fun w hw => by exact exec_cat (x := .const (.string nS)) (y := .tmp 61) nS (digS (k / 10)) HS1.out rfl (by kernel_rfl) (by kernel_rfl)) hH ?_
        simp only [List.setIfInBounds_toArray, List.set_cons_zero, List.set_cons_succ]
        refine takeH 12 63 (.int .i64 k) rfl (by kernel_rfl) (by kernel_rfl) (by kernel_rfl) (by kernel_rfl) (fun _ _ _ h => h) (by kernel_rfl) (fun w hw => by kernel_rfl) hH ?_
        simp only [List.setIfInBounds_toArray, List.set_cons_zero, List.set_cons_succ]
        refine takeH 13 64 (.int .i64 ((k % 10 : Nat) : Int)) rfl (by kernel_rfl) (by kernel_rfl) (by kernel_rfl) (by kernel_rfl) (fun _ _ _ h => h) (by kernel_rfl) (fun w hw => by exact exec_rem (x := .tmp 63) (y := .const (.int .i64 10)) k rfl (by kernel_rfl) (by kernel_rfl)) hH ?_
        simp only [List.setIfInBounds_toArray, List.set_cons_zero, List.set_cons_succ]
        refine takeH 14 65 (.int .i64 k) rfl (by kernel_rfl) (by kernel_rfl) (by kernel_rfl) (by kernel_rfl) (fun _ _ _ h => h) (by kernel_rfl) (fun w hw => by kernel_rfl) hH ?_
        simp only [List.setIfInBounds_toArray, List.set_cons_zero, List.set_cons_succ]
        refine takeH 15 66 (.int .i64 ((k % 10 : Nat) : Int)) rfl (by kernel_rfl) (by kernel_rfl) (by kernel_rfl) (by kernel_rfl) (fun _ _ _ h => h) (by kernel_rfl) (fun w hw => by exact exec_rem (x := .tmp 65) (y := .const (.int .i64 10)) k rfl (by kernel_rfl) (by kernel_rfl)) hH ?_
        simp only [List.setIfInBounds_toArray, List.set_cons_zero, List.set_cons_succ]
        refine takeH 16 67 (.int .i64 (((k % 10 : Nat) : Int) + 1)) rfl (by kernel_rfl) (by kernel_rfl) (by kernel_rfl) (by kernel_rfl) (fun _ _ _ h => h) (by kernel_rfl) (fun w hw => by exact exec_inc (x := .tmp 66) (y := .const (.int .i64 1)) (k % 10) (by omega) rfl (by kernel_rfl) (by kernel_rfl)) hH ?_
        simp only [List.setIfInBounds_toArray, List.set_cons_zero, List.set_cons_succ]
        refine takeH 17 68 (.string (digS (k % 10))) rfl (by kernel_rfl) (by kernel_rfl) (by kernel_rfl) (by kernel_rfl) (fun _ _ _ h => h) (by kernel_rfl) (fun w hw => by exact exec_dig (x := .tmp 64) (y := .tmp 67) (k % 10) (by omega) rfl (by kernel_rfl) (by kernel_rfl) (by kernel_rfl)) hH ?_
        simp only [List.setIfInBounds_toArray, List.set_cons_zero, List.set_cons_succ]
        refine takeH 18 69 (.string (nameOf k)) rfl (by kernel_rfl) (by kernel_rfl) (by kernel_rfl) (by kernel_rfl) (fun _ _ _ h => h) (by kernel_rfl) (fun w hw => by exact exec_cat (x := .tmp 62) (y := .tmp 68) (nS ++ digS (k / 10)) (digS (k % 10)) HS2.out rfl (by kernel_rfl) (by kernel_rfl)) hH ?_
        simp only [List.setIfInBounds_toArray, List.set_cons_zero, List.set_cons_succ]
        refine takeH 19 70 (entV x (nameOf k)) rfl (by kernel_rfl) (by kernel_rfl) (by kernel_rfl) (by kernel_rfl) (fun _ _ _ h => h) (by kernel_rfl) (fun w hw => by exact exec_build26two (x := .tmp 55) (y := .tmp 69) rfl (by kernel_rfl) (by kernel_rfl)) hH ?_
        simp only [List.setIfInBounds_toArray, List.set_cons_zero, List.set_cons_succ]
        refine stepH_run 20 71 (.slice (some ⟨wr.drew.heap.size, 0, none⟩) 1 1) (wr.drew.alloc (.cells (entC x (nameOf k)).toArray 26)) rfl (by kernel_rfl) (by kernel_rfl) (by kernel_rfl) (exec_one26 (x := .tmp 70) rfl (by kernel_rfl)) HB4.out ?_
        simp only [List.setIfInBounds_toArray, List.set_cons_zero, List.set_cons_succ]
        refine stepH_run 21 72 v5 W5 rfl (by kernel_rfl) (by kernel_rfl) (by kernel_rfl) (by
          unfold execOp
          simp only [resolve, invoke, builtin]
          simp [Act.eval, HR5.out]) HB5.out ?_
        simp only [List.setIfInBounds_toArray, List.set_cons_zero, List.set_cons_succ]
        refine takeH 22 8 (v5) rfl (by kernel_rfl) (by kernel_rfl) (by kernel_rfl) (by kernel_rfl) (fun _ _ _ h => h) (by kernel_rfl) (fun w hw => by kernel_rfl) HB5.out ?_
        simp only [List.setIfInBounds_toArray, List.set_cons_zero, List.set_cons_succ]
        refine wpAnyH_done (by kernel_rfl) ?_ _
        clear hH
        go_wp2_with fail
        go_roundw
        case rel => exact ⟨k + 1, by omega, by go_num, HO5.out, HB5.out, HA3.out⟩
        case measure => simp [intOf]; omega
    · have hge : (n : Int) ≤ k := by omega
      obtain rfl : k = n := by omega
      obtain ⟨ap, cp, hu8, hE, -⟩ := owns_EAt HO.out
      subst hu8
      have HOK := Hid.mk (named_ok xs k hn HA.out)
      have HP := Hid.mk (pblock_yes wr ap k cp (namedL xs k) hE (named_small xs k hn) HOK.out)
      have HE := Hid.mk hE
      obtain ⟨q, hq⟩ : ∃ q, q = t / 32 := ⟨_, rfl⟩
      obtain ⟨r, hr⟩ : ∃ r, r = t % 23 := ⟨_, rfl⟩
      obtain ⟨p1, hp1⟩ : ∃ p1, p1 = 32 * q := ⟨_, rfl⟩
      obtain ⟨p2, hp2⟩ : ∃ p2, p2 = p1 + 9 := ⟨_, rfl⟩
      obtain ⟨K, hK⟩ : ∃ K, K = p2 + r := ⟨_, rfl⟩
      have f1 : (t : Int) / 32 = (q : Int) := by omega
      have f2 : (t : Int).tmod 23 = (r : Int) := by rw [Int.tmod_eq_emod_of_nonneg (by omega)]; omega
      have f3 : (q : Int) * 32 = (p1 : Int) := by omega
      have f4 : (p1 : Int) + 9 = (p2 : Int) := by omega
      have f5 : (p2 : Int) + (r : Int) = (K : Int) := by omega
      have hK2 : K < 1024 := by omega
      have hq2 : q < 32 := by omega
      have hr2 : 9 + r < 32 := by omega
      have hKe : K = 32 * q + (9 + r) := by omega
      have HZ : Hid ((blockL (namedL xs k)).getD K 0 = 0) := Hid.mk (by
        rw [hKe, ← blkAt_get _ _ _ hr2, block_at xs k q hn HA.out hq2]
        exact entL_zero (atE_is xs k q hn HA.out).2 _ (by omega))
      have HBLN := Hid.mk (blockL_length HOK.out)
      obtain ⟨E, hEd⟩ : ∃ E, E = namedL xs k := ⟨_, rfl⟩
      obtain ⟨T, hTd⟩ : ∃ T, T = entsL ((blockL (namedL xs k)).set K y) 32 := ⟨_, rfl⟩
      have HEG : Hid (∀ j, j < k → E.getD j noE = (xs.getD j 0, nameOf j)) := Hid.mk (fun j hj => by rw [hEd]; exact namedL_get xs k j hj)
      have HTD : Hid (∀ j, j < 32 → T.getD j noE = toldE xs k q j y) := Hid.mk (fun j hj => by
        rw [hTd, entsL_get _ _ _ hj, hKe]
        exact told_is xs k q (9 + r) j y hn HA.out (by omega) hr2 hj)
      have HBB : Hid (∀ x ∈ (blockL (namedL xs k)).set K y, 0 ≤ x ∧ x ≤ 255) := Hid.mk (set_bound _ (fun x hx => by
        rcases List.mem_append.1 hx with h | h
        · exact catL_bound _ (okB_len HOK.out).2 x h
        · exact zeros_bound _ x h) K y hy)
      have HSTEP : Hid (∀ W5 g, RAt W5 g (blockL (namedL xs k)) → wr.heap.size ≤ g → Below wr.heap.size wr W5 → (W5.cell? ⟨g, K, none⟩ = some (.int .u8 0) ∧ W5.frozen? ⟨g, K, none⟩ = false) ∧ EAt (W5.setCell ⟨g, K, none⟩ (.int .u8 y)) ap k E ∧ Below B w (W5.setCell ⟨g, K, none⟩ (.int .u8 y)) ∧
          Calls Try.prog 11 #[.slice (some ⟨g, 0, none⟩) 1024 1024] (W5.setCell ⟨g, K, none⟩ (.int .u8 y)) fun e w' => ∃ aw cw, e = .returned (.slice aw 32 cw) ∧ EAt w' aw 32 T ∧ Below (W5.setCell ⟨g, K, none⟩ (.int .u8 y)).heap.size (W5.setCell ⟨g, K, none⟩ (.int .u8 y)) w') := Hid.mk (fun W5 g hrow hge hB => by
        rw [hEd, hTd]
        have hcell := hrow.cell K (by rw [HBLN.out]; exact hK2)
        rw [HZ.out] at hcell
        have hrow6 : RAt (W5.setCell ⟨g, K, none⟩ (.int .u8 y)) g ((blockL (namedL xs k)).set K y) := by
          unfold RAt
          rw [blk_set hrow, By_setArr]
        have hbs : B ≤ wr.heap.size := Nat.le_trans HBs.out HBK.out.size
        refine ⟨hcell, ?_, (HBK.out.trans (hB.mono hbs)).setCell (p := ⟨g, K, none⟩) (Nat.le_trans hbs hge) _, ?_⟩
        · rcases Nat.eq_zero_or_pos k with h0 | h0
          · exact ⟨HE.out.1, fun h => by omega⟩
          · refine (HE.out.below hB).only ((Only.refl (fun j => j = g) W5).setCell (p := ⟨g, K, none⟩) (.inl rfl) _) (fun a e _ hs => ?_)
            obtain ⟨a', e', hlt, -⟩ := HE.out.2 h0
            rw [e] at e'
            cases e'
            omega
        · have hb6 := hrow6.full (n := 1024) (by rw [List.length_set]; exact HBLN.out)
          refine (block_any _ (some ⟨g, 0, none⟩) 1024 1024 _ hb6 HBB.out (by omega) (by omega)).mono ?_
          have hbe : blkE ((blockL (namedL xs k)).set K y) = entsL ((blockL (namedL xs k)).set K y) 32 := by
            unfold blkE
            rw [if_pos (by rw [List.length_set]; exact HBLN.out)]
          rw [hbe, entsL_length]
          rintro e w' ⟨aw, cw, rfl, h1, h2⟩
          exact ⟨aw, cw, rfl, h1, h2⟩)
      have hxor := xor_zero y hy
      clear hE hq hr hp1 hp2 hK hKe HO HLA hEd hTd
      go_wp2_with (first
        | (go_at_call 9; refine HP.out.mono ?_; rintro e W5 ⟨g, rfl, hrow, hge5, hB5⟩; obtain ⟨⟨hc1, hc2⟩, hE6, hB6, hC6⟩ := HSTEP.out W5 g hrow hge5 hB5; have HE6 := Hid.mk hE6; have HB6 := Hid.mk hB6; have HC6 := Hid.mk hC6; clear hrow hge5 hB5 hE6 hB6 hC6 HSTEP HP)
        | (go_at_call 10; refine (num_any _ _).mono ?_; rintro e w3 ⟨rfl, hw⟩; subst w3)
        | (go_at_call 11; refine HC6.out.mono ?_; rintro e W7 ⟨aw, cw, rfl, hT, hB7⟩; have HT := Hid.mk hT; have HE7 := Hid.mk (HE6.out.below hB7); have HB7 := Hid.mk (HB6.out.trans (hB7.mono (Nat.le_trans HBs.out HB6.out.size))); clear hT hB7))
      clear hxor hc1 hc2 HE6 HB6 HC6 HZ HBLN HBB HE HOK HBK
      go_loopw [14] (fun i wx => ∃ j : Nat, j ≤ 32 ∧ i = .int .i64 j ∧ EAt wx ap k E ∧ EAt wx aw 32 T ∧ Below B w wx) (fun i _ => 32 - (intOf i).toNat)
      case atStart => exact ⟨0, by omega, rfl, HE7.out, HT.out, HB7.out⟩
      case round =>
        obtain ⟨j, hj, rfl, hE, hT, hb⟩ := hrel
        by_cases hjl : j < 32
        · have HTJ := Hid.mk (HTD.out j hjl)
          obtain ⟨X, Y, d, hrX, hrY, hD, hBY, hd⟩ := var26 wr 0 noS
          have hEY := hE.below hBY
          have hTY := hT.below hBY
          have hbY : Below B w Y := hb.trans (hBY.mono (Nat.le_trans HBs.out hb.size))
          have HTlt : Hid (∀ a, aw = some a → a.block < wr.heap.size) := Hid.mk (fun a e => by
            obtain ⟨a', e', hl, -⟩ := hT.2 (by omega)
            rw [e] at e'
            cases e'
            exact hl)
          have HElt : Hid (0 < k → ∀ a, ap = some a → a.block < wr.heap.size) := Hid.mk (fun h0 a e => by
            obtain ⟨a', e', hl, -⟩ := hE.2 h0
            rw [e] at e'
            cases e'
            exact hl)
          have HRX := Hid.mk hrX
          have HRY := Hid.mk hrY
          have HDY := Hid.mk hD
          have HEY := Hid.mk hEY
          have HTY := Hid.mk hTY
          have HBY := Hid.mk hbY
          have HDG := Hid.mk hd
          have HBW : Hid (B ≤ wr.heap.size) := Hid.mk (Nat.le_trans HBs.out hb.size)
          clear hrX hrY hD hEY hTY hbY hBY hd hE hT hb HE7 HT HB7
          by_cases hjk : j < k
          · have hjd : decide ((j : Int) < (k : Int)) = true := decide_eq_true (by omega)
            have hji : (j : Int) < (k : Int) := by omega
            by_cases hjq : j = q
            · by_cases hy0 : y = 0
              · have HV : Hid (toldE xs k q j y = (xs.getD j 0, nameOf j)) := Hid.mk (by unfold toldE atE; rw [if_pos (.inr hy0), if_pos hjk])
                have g1 : ((j : Int) == (q : Int)) = true := by simp [hjq]
                have g2 : (y == 0) = true := by simp [hy0]
                have g3 : ((j : Int) != (q : Int)) = false := by simp [hjq]
                clear hjq hy0
                obtain ⟨a1, e1, -, hl1, -⟩ := HEY.out.at j hjk
                subst e1
                rw [HEG.out j hjk] at hl1
                dsimp only at hl1
                obtain ⟨i, hi⟩ : ∃ i, i = xs.getD j 0 := ⟨_, rfl⟩
                obtain ⟨s, hs⟩ : ∃ s, s = nameOf j := ⟨_, rfl⟩
                rw [← hi, ← hs] at hl1 HV
                have HL1 := Hid.mk hl1
                obtain ⟨Z, hrZ, hDZ, hoZ⟩ := store26_run (j := i) (t := s) HDY.out
                have hTZ := HTY.out.only hoZ (fun a e _ h => by have := HTlt.out a e; have := HDG.out; omega)
                have hEZ := HEY.out.only hoZ (fun a e _ h => by have := HElt.out (by omega) a e; have := HDG.out; omega)
                have hBZ : Below B w Z := HBY.out.trans (hoZ.below (Nat.le_trans HBs.out HBY.out.size) (fun j' e => by have := HDG.out; have := HBW.out; omega))
                have HRZ := Hid.mk hrZ
                have HDZ := Hid.mk hDZ
                have HEZ := Hid.mk hEZ
                have HTZ := Hid.mk hTZ
                have HBZ := Hid.mk hBZ
                clear hl1 hrZ hDZ hoZ hTZ hEZ hBZ hi hs
                obtain ⟨a2, e2, -, hl2, -⟩ := EAt.at (W := Z.drew) HTZ.out j hjl
                subst e2
                rw [HTJ.out, HV.out] at hl2
                have HL2 : Hid ((Instr.loadAt 26 (.pointer (some (a2.add (j * 2))))).run Try.prog Z.drew = .ok (entV i s) Z.drew) := Hid.mk hl2
                have HL3 : Hid ((Instr.loadAt 26 (.pointer (some ⟨d, 0, none⟩))).run Try.prog Z.drew = .ok (entV i s) Z.drew) := Hid.mk (load26_run (W := Z.drew) HDZ.out)
                have HFIN : Hid (EAt Z.drew (some a1) k E ∧ EAt Z.drew (some a2) 32 T ∧ Below B w Z.drew) := Hid.mk ⟨HEZ.out, HTZ.out, HBZ.out.drew⟩
                clear hl2
                go_upto_region 23 with (first
                  | (refine wpL_build rfl rfl ?_)
                  | (refine wpL_new rfl rfl _ X HRX.out ?_)
                  | (refine wpL_store (.tmp 15) (.tmp 106) rfl rfl _ _ Y rfl rfl HRY.out ?_))
                simp only [Act.put, List.setIfInBounds_toArray, List.set_cons_zero, List.set_cons_succ]
                go_upto_region 25 with (first
                  | (refine wpL_loadat (.tmp 123) rfl rfl (a1.add (j * 2)) i s rfl HL1.out ?_; simp only [Act.put, List.setIfInBounds_toArray, List.set_cons_zero, List.set_cons_succ])
                  | (refine wpL_store (.tmp 15) (.tmp 124) rfl rfl (.pointer (some ⟨d, 0, none⟩)) (entV i s) Z rfl rfl HRZ.out ?_))
                simp only [Act.put]
                refine wp_region_held_drew (S := fun W => W = Z.drew) (by kernel_rfl) rfl (fun hH => ?_)
                change wpAnyH Try.prog Region.Mode.any _ _ _ 6 _ _ _
                refine takeH 0 125 (.slice (some a2) 32 cw) rfl (by kernel_rfl) (by kernel_rfl) (by kernel_rfl) (by kernel_rfl) (fun _ _ _ h => h) (by kernel_rfl) (fun w hw => by kernel_rfl) hH ?_
                simp only [List.setIfInBounds_toArray, List.set_cons_zero, List.set_cons_succ]
                refine takeH 1 126 (.int .i64 j) rfl (by kernel_rfl) (by kernel_rfl) (by kernel_rfl) (by kernel_rfl) (fun _ _ _ h => h) (by kernel_rfl) (fun w hw => by kernel_rfl) hH ?_
                simp only [List.setIfInBounds_toArray, List.set_cons_zero, List.set_cons_succ]
                refine takeH 2 127 (.pointer (some (a2.add (j * 2)))) rfl (by kernel_rfl) (by kernel_rfl) (by kernel_rfl) (by kernel_rfl) (fun _ _ _ h => h) (by kernel_rfl) (fun w hw => by go_simp) hH ?_
                simp only [List.setIfInBounds_toArray, List.set_cons_zero, List.set_cons_succ]
                refine takeH 3 128 (entV i s) rfl (by kernel_rfl) (by kernel_rfl) (by kernel_rfl) (by kernel_rfl) (fun _ _ _ h => h) (by kernel_rfl) (fun w hw => by subst hw; exact exec_load26 (x := .tmp 127) rfl (by kernel_rfl) HL2.out) hH ?_
                simp only [List.setIfInBounds_toArray, List.set_cons_zero, List.set_cons_succ]
                refine takeH 4 129 (entV i s) rfl (by kernel_rfl) (by kernel_rfl) (by kernel_rfl) (by kernel_rfl) (fun _ _ _ h => h) (by kernel_rfl) (fun w hw => by subst hw; exact exec_load26 (x := .tmp 15) rfl (by kernel_rfl) HL3.out) hH ?_
                simp only [List.setIfInBounds_toArray, List.set_cons_zero, List.set_cons_succ]
                refine takeH 5 130 (.bool (!eqE i s i s)) rfl (by kernel_rfl) (by kernel_rfl) (by kernel_rfl) (by kernel_rfl) (fun _ _ _ h => h) (by kernel_rfl) (fun w hw => by exact exec_neq (x := .tmp 128) (y := .tmp 129) rfl (by kernel_rfl) (by kernel_rfl)) hH ?_
                simp only [List.setIfInBounds_toArray, List.set_cons_zero, List.set_cons_succ]
                refine wpAnyH_done (by kernel_rfl) ?_ _
                clear hH
                rw [eqE_self]
                go_wp2_with fail
                go_roundw
                case rel => exact ⟨j + 1, by omega, by go_num, HFIN.out.1, HFIN.out.2.1, HFIN.out.2.2⟩
                case measure => simp [intOf]; omega
              · have HV : Hid (toldE xs k q j y = noE) := Hid.mk (by unfold toldE; rw [if_neg (by rintro (h' | h'); exact h' hjq; exact hy0 h')])
                have g1 : ((j : Int) == (q : Int)) = true := by simp [hjq]
                have g2 : (y == 0) = false := by simp [hy0]
                have g3 : ((j : Int) != (q : Int)) = false := by simp [hjq]
                clear hjq hy0
                have HDZ := HDY
                have HEZ := HEY
                have HTZ := HTY
                have HBZ := HBY
                obtain ⟨a2, e2, -, hl2, -⟩ := EAt.at (W := Y.drew) HTZ.out j hjl
                subst e2
                rw [HTJ.out, HV.out] at hl2
                have HL2 : Hid ((Instr.loadAt 26 (.pointer (some (a2.add (j * 2))))).run Try.prog Y.drew = .ok (entV 0 noS) Y.drew) := Hid.mk hl2
                have HL3 : Hid ((Instr.loadAt 26 (.pointer (some ⟨d, 0, none⟩))).run Try.prog Y.drew = .ok (entV 0 noS) Y.drew) := Hid.mk (load26_run (W := Y.drew) HDZ.out)
                have HFIN : Hid (EAt Y.drew ap k E ∧ EAt Y.drew (some a2) 32 T ∧ Below B w Y.drew) := Hid.mk ⟨HEZ.out, HTZ.out, HBZ.out.drew⟩
                clear hl2
                go_upto_region 23 with (first
                  | (refine wpL_build rfl rfl ?_)
                  | (refine wpL_new rfl rfl _ X HRX.out ?_)
                  | (refine wpL_store (.tmp 15) (.tmp 106) rfl rfl _ _ Y rfl rfl HRY.out ?_))
                simp only [Act.put, List.setIfInBounds_toArray, List.set_cons_zero, List.set_cons_succ]
                go_upto_region 25 with fail
                refine wp_region_held_drew (S := fun W => W = Y.drew) (by kernel_rfl) rfl (fun hH => ?_)
                change wpAnyH Try.prog Region.Mode.any _ _ _ 6 _ _ _
                refine takeH 0 125 (.slice (some a2) 32 cw) rfl (by kernel_rfl) (by kernel_rfl) (by kernel_rfl) (by kernel_rfl) (fun _ _ _ h => h) (by kernel_rfl) (fun w hw => by kernel_rfl) hH ?_
                simp only [List.setIfInBounds_toArray, List.set_cons_zero, List.set_cons_succ]
                refine takeH 1 126 (.int .i64 j) rfl (by kernel_rfl) (by kernel_rfl) (by kernel_rfl) (by kernel_rfl) (fun _ _ _ h => h) (by kernel_rfl) (fun w hw => by kernel_rfl) hH ?_
                simp only [List.setIfInBounds_toArray, List.set_cons_zero, List.set_cons_succ]
                refine takeH 2 127 (.pointer (some (a2.add (j * 2)))) rfl (by kernel_rfl) (by kernel_rfl) (by kernel_rfl) (by kernel_rfl) (fun _ _ _ h => h) (by kernel_rfl) (fun w hw => by go_simp) hH ?_
                simp only [List.setIfInBounds_toArray, List.set_cons_zero, List.set_cons_succ]
                refine takeH 3 128 (entV 0 noS) rfl (by kernel_rfl) (by kernel_rfl) (by kernel_rfl) (by kernel_rfl) (fun _ _ _ h => h) (by kernel_rfl) (fun w hw => by subst hw; exact exec_load26 (x := .tmp 127) rfl (by kernel_rfl) HL2.out) hH ?_
                simp only [List.setIfInBounds_toArray, List.set_cons_zero, List.set_cons_succ]
                refine takeH 4 129 (entV 0 noS) rfl (by kernel_rfl) (by kernel_rfl) (by kernel_rfl) (by kernel_rfl) (fun _ _ _ h => h) (by kernel_rfl) (fun w hw => by subst hw; exact exec_load26 (x := .tmp 15) rfl (by kernel_rfl) HL3.out) hH ?_
                simp only [List.setIfInBounds_toArray, List.set_cons_zero, List.set_cons_succ]
                refine takeH 5 130 (.bool (!eqE 0 noS 0 noS)) rfl (by kernel_rfl) (by kernel_rfl) (by kernel_rfl) (by kernel_rfl) (fun _ _ _ h => h) (by kernel_rfl) (fun w hw => by exact exec_neq (x := .tmp 128) (y := .tmp 129) rfl (by kernel_rfl) (by kernel_rfl)) hH ?_
                simp only [List.setIfInBounds_toArray, List.set_cons_zero, List.set_cons_succ]
                refine wpAnyH_done (by kernel_rfl) ?_ _
                clear hH
                rw [eqE_self]
                go_wp2_with fail
                go_roundw
                case rel => exact ⟨j + 1, by omega, by go_num, HFIN.out.1, HFIN.out.2.1, HFIN.out.2.2⟩
                case measure => simp [intOf]; omega
            · have HV : Hid (toldE xs k q j y = (xs.getD j 0, nameOf j)) := Hid.mk (by unfold toldE atE; rw [if_pos (.inl hjq), if_pos hjk])
              have g1 : ((j : Int) == (q : Int)) = false := by simp; omega
              have g3 : ((j : Int) != (q : Int)) = true := by simp; omega
              clear hjq
              obtain ⟨a1, e1, -, hl1, -⟩ := HEY.out.at j hjk
              subst e1
              rw [HEG.out j hjk] at hl1
              dsimp only at hl1
              obtain ⟨i, hi⟩ : ∃ i, i = xs.getD j 0 := ⟨_, rfl⟩
              obtain ⟨s, hs⟩ : ∃ s, s = nameOf j := ⟨_, rfl⟩
              rw [← hi, ← hs] at hl1 HV
              have HL1 := Hid.mk hl1
              obtain ⟨Z, hrZ, hDZ, hoZ⟩ := store26_run (j := i) (t := s) HDY.out
              have hTZ := HTY.out.only hoZ (fun a e _ h => by have := HTlt.out a e; have := HDG.out; omega)
              have hEZ := HEY.out.only hoZ (fun a e _ h => by have := HElt.out (by omega) a e; have := HDG.out; omega)
              have hBZ : Below B w Z := HBY.out.trans (hoZ.below (Nat.le_trans HBs.out HBY.out.size) (fun j' e => by have := HDG.out; have := HBW.out; omega))
              have HRZ := Hid.mk hrZ
              have HDZ := Hid.mk hDZ
              have HEZ := Hid.mk hEZ
              have HTZ := Hid.mk hTZ
              have HBZ := Hid.mk hBZ
              clear hl1 hrZ hDZ hoZ hTZ hEZ hBZ hi hs
              obtain ⟨a2, e2, -, hl2, -⟩ := EAt.at (W := Z.drew) HTZ.out j hjl
              subst e2
              rw [HTJ.out, HV.out] at hl2
              have HL2 : Hid ((Instr.loadAt 26 (.pointer (some (a2.add (j * 2))))).run Try.prog Z.drew = .ok (entV i s) Z.drew) := Hid.mk hl2
              have HL3 : Hid ((Instr.loadAt 26 (.pointer (some ⟨d, 0, none⟩))).run Try.prog Z.drew = .ok (entV i s) Z.drew) := Hid.mk (load26_run (W := Z.drew) HDZ.out)
              have HFIN : Hid (EAt Z.drew (some a1) k E ∧ EAt Z.drew (some a2) 32 T ∧ Below B w Z.drew) := Hid.mk ⟨HEZ.out, HTZ.out, HBZ.out.drew⟩
              clear hl2
              go_upto_region 23 with (first
                | (refine wpL_build rfl rfl ?_)
                | (refine wpL_new rfl rfl _ X HRX.out ?_)
                | (refine wpL_store (.tmp 15) (.tmp 106) rfl rfl _ _ Y rfl rfl HRY.out ?_))
              simp only [Act.put, List.setIfInBounds_toArray, List.set_cons_zero, List.set_cons_succ]
              go_upto_region 25 with (first
                | (refine wpL_loadat (.tmp 123) rfl rfl (a1.add (j * 2)) i s rfl HL1.out ?_; simp only [Act.put, List.setIfInBounds_toArray, List.set_cons_zero, List.set_cons_succ])
                | (refine wpL_store (.tmp 15) (.tmp 124) rfl rfl (.pointer (some ⟨d, 0, none⟩)) (entV i s) Z rfl rfl HRZ.out ?_))
              simp only [Act.put]
              refine wp_region_held_drew (S := fun W => W = Z.drew) (by kernel_rfl) rfl (fun hH => ?_)
              change wpAnyH Try.prog Region.Mode.any _ _ _ 6 _ _ _
              refine takeH 0 125 (.slice (some a2) 32 cw) rfl (by kernel_rfl) (by kernel_rfl) (by kernel_rfl) (by kernel_rfl) (fun _ _ _ h => h) (by kernel_rfl) (fun w hw => by kernel_rfl) hH ?_
              simp only [List.setIfInBounds_toArray, List.set_cons_zero, List.set_cons_succ]
              refine takeH 1 126 (.int .i64 j) rfl (by kernel_rfl) (by kernel_rfl) (by kernel_rfl) (by kernel_rfl) (fun _ _ _ h => h) (by kernel_rfl) (fun w hw => by kernel_rfl) hH ?_
              simp only [List.setIfInBounds_toArray, List.set_cons_zero, List.set_cons_succ]
              refine takeH 2 127 (.pointer (some (a2.add (j * 2)))) rfl (by kernel_rfl) (by kernel_rfl) (by kernel_rfl) (by kernel_rfl) (fun _ _ _ h => h) (by kernel_rfl) (fun w hw => by go_simp) hH ?_
              simp only [List.setIfInBounds_toArray, List.set_cons_zero, List.set_cons_succ]
              refine takeH 3 128 (entV i s) rfl (by kernel_rfl) (by kernel_rfl) (by kernel_rfl) (by kernel_rfl) (fun _ _ _ h => h) (by kernel_rfl) (fun w hw => by subst hw; exact exec_load26 (x := .tmp 127) rfl (by kernel_rfl) HL2.out) hH ?_
              simp only [List.setIfInBounds_toArray, List.set_cons_zero, List.set_cons_succ]
              refine takeH 4 129 (entV i s) rfl (by kernel_rfl) (by kernel_rfl) (by kernel_rfl) (by kernel_rfl) (fun _ _ _ h => h) (by kernel_rfl) (fun w hw => by subst hw; exact exec_load26 (x := .tmp 15) rfl (by kernel_rfl) HL3.out) hH ?_
              simp only [List.setIfInBounds_toArray, List.set_cons_zero, List.set_cons_succ]
              refine takeH 5 130 (.bool (!eqE i s i s)) rfl (by kernel_rfl) (by kernel_rfl) (by kernel_rfl) (by kernel_rfl) (fun _ _ _ h => h) (by kernel_rfl) (fun w hw => by exact exec_neq (x := .tmp 128) (y := .tmp 129) rfl (by kernel_rfl) (by kernel_rfl)) hH ?_
              simp only [List.setIfInBounds_toArray, List.set_cons_zero, List.set_cons_succ]
              refine wpAnyH_done (by kernel_rfl) ?_ _
              clear hH
              rw [eqE_self]
              go_wp2_with fail
              go_roundw
              case rel => exact ⟨j + 1, by omega, by go_num, HFIN.out.1, HFIN.out.2.1, HFIN.out.2.2⟩
              case measure => simp [intOf]; omega
          · have HV : Hid (toldE xs k q j y = noE) := Hid.mk (by unfold toldE atE; rw [if_neg hjk]; split <;> rfl)
            have hjd : decide ((j : Int) < (k : Int)) = false := decide_eq_false (by omega)
            have hji : (k : Int) ≤ (j : Int) := by omega
            have HDZ := HDY
            have HEZ := HEY
            have HTZ := HTY
            have HBZ := HBY
            obtain ⟨a2, e2, -, hl2, -⟩ := EAt.at (W := Y.drew) HTZ.out j hjl
            subst e2
            rw [HTJ.out, HV.out] at hl2
            have HL2 : Hid ((Instr.loadAt 26 (.pointer (some (a2.add (j * 2))))).run Try.prog Y.drew = .ok (entV 0 noS) Y.drew) := Hid.mk hl2
            have HL3 : Hid ((Instr.loadAt 26 (.pointer (some ⟨d, 0, none⟩))).run Try.prog Y.drew = .ok (entV 0 noS) Y.drew) := Hid.mk (load26_run (W := Y.drew) HDZ.out)
            have HFIN : Hid (EAt Y.drew ap k E ∧ EAt Y.drew (some a2) 32 T ∧ Below B w Y.drew) := Hid.mk ⟨HEZ.out, HTZ.out, HBZ.out.drew⟩
            clear hl2
            go_upto_region 23 with (first
              | (refine wpL_build rfl rfl ?_)
              | (refine wpL_new rfl rfl _ X HRX.out ?_)
              | (refine wpL_store (.tmp 15) (.tmp 106) rfl rfl _ _ Y rfl rfl HRY.out ?_))
            simp only [Act.put, List.setIfInBounds_toArray, List.set_cons_zero, List.set_cons_succ]
            go_upto_region 25 with fail
            refine wp_region_held_drew (S := fun W => W = Y.drew) (by kernel_rfl) rfl (fun hH => ?_)
            change wpAnyH Try.prog Region.Mode.any _ _ _ 6 _ _ _
            refine takeH 0 125 (.slice (some a2) 32 cw) rfl (by kernel_rfl) (by kernel_rfl) (by kernel_rfl) (by kernel_rfl) (fun _ _ _ h => h) (by kernel_rfl) (fun w hw => by kernel_rfl) hH ?_
            simp only [List.setIfInBounds_toArray, List.set_cons_zero, List.set_cons_succ]
            refine takeH 1 126 (.int .i64 j) rfl (by kernel_rfl) (by kernel_rfl) (by kernel_rfl) (by kernel_rfl) (fun _ _ _ h => h) (by kernel_rfl) (fun w hw => by kernel_rfl) hH ?_
            simp only [List.setIfInBounds_toArray, List.set_cons_zero, List.set_cons_succ]
            refine takeH 2 127 (.pointer (some (a2.add (j * 2)))) rfl (by kernel_rfl) (by kernel_rfl) (by kernel_rfl) (by kernel_rfl) (fun _ _ _ h => h) (by kernel_rfl) (fun w hw => by go_simp) hH ?_
            simp only [List.setIfInBounds_toArray, List.set_cons_zero, List.set_cons_succ]
            refine takeH 3 128 (entV 0 noS) rfl (by kernel_rfl) (by kernel_rfl) (by kernel_rfl) (by kernel_rfl) (fun _ _ _ h => h) (by kernel_rfl) (fun w hw => by subst hw; exact exec_load26 (x := .tmp 127) rfl (by kernel_rfl) HL2.out) hH ?_
            simp only [List.setIfInBounds_toArray, List.set_cons_zero, List.set_cons_succ]
            refine takeH 4 129 (entV 0 noS) rfl (by kernel_rfl) (by kernel_rfl) (by kernel_rfl) (by kernel_rfl) (fun _ _ _ h => h) (by kernel_rfl) (fun w hw => by subst hw; exact exec_load26 (x := .tmp 15) rfl (by kernel_rfl) HL3.out) hH ?_
            simp only [List.setIfInBounds_toArray, List.set_cons_zero, List.set_cons_succ]
            refine takeH 5 130 (.bool (!eqE 0 noS 0 noS)) rfl (by kernel_rfl) (by kernel_rfl) (by kernel_rfl) (by kernel_rfl) (fun _ _ _ h => h) (by kernel_rfl) (fun w hw => by exact exec_neq (x := .tmp 128) (y := .tmp 129) rfl (by kernel_rfl) (by kernel_rfl)) hH ?_
            simp only [List.setIfInBounds_toArray, List.set_cons_zero, List.set_cons_succ]
            refine wpAnyH_done (by kernel_rfl) ?_ _
            clear hH
            rw [eqE_self]
            go_wp2_with fail
            go_roundw
            case rel => exact ⟨j + 1, by omega, by go_num, HFIN.out.1, HFIN.out.2.1, HFIN.out.2.2⟩
            case measure => simp [intOf]; omega
        · have hge2 : (32 : Int) ≤ j := by omega
          obtain rfl : j = 32 := by omega
          clear hE hT
          have HBF := Hid.mk hb
          clear hb
          go_wp2
          go_ret
          exact ⟨rfl, HBF.out⟩
end Go.Proofs.Ytpdekpdlmfnndaa
