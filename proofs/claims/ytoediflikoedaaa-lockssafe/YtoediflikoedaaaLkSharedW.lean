/-
  The law LocksShared.
-/
import Derived.Test.YtoediflikoedaaaLkShared
namespace Go.Proofs.Ytoediflikoedaaa
open Go Go.Proofs Go.RowKit Go.Shelf
attribute [local go_sem] Oper.semAt_some
/-- The table, by what it holds. -/
def TbO (w W : World) (t N : Nat) (P : Ta → Prop) : Prop := ∃ A, LkO (fun _ => False) w W t A N ∧ P A
theorem one_ne {A : Ta} {h : Option (List Int × Bool)} {L : List Lk} (h1 : One A h (some L)) : A ≠ Ta.none := fun e => by
  have := h1.2.1
  rw [e] at this
  cases this
set_option maxRecDepth 100000 in
set_option maxHeartbeats 8000000 in
theorem shared_any (w : World) (a b : Int) : Calls Try.prog 6 #[.int .i64 a, .int .i64 b] w fun e w' => e = .returned (.bool true) ∧ Below w.heap.size w w' := by
  have HAL := Hid.mk (alive_any w)
  by_cases ha1 : a < 1
  · have hb : decide (a < 1) = true := decide_eq_true ha1
    go_enter Try.func6, Try.ntmps6
    go_wp2_with (go_at_call 9; refine HAL.out.mono ?_; rintro e w1 ⟨rfl, hb1⟩; have HB1 := Hid.mk hb1; clear hb1 HAL)
    go_ret
    exact ⟨rfl, HB1.out⟩
  by_cases ha2 : 20 < a
  · go_enter Try.func6, Try.ntmps6
    go_wp2_with (go_at_call 9; refine HAL.out.mono ?_; rintro e w1 ⟨rfl, hb1⟩; have HB1 := Hid.mk hb1; clear hb1 HAL)
    go_ret
    exact ⟨rfl, HB1.out⟩
  by_cases hb1 : b < 0
  · go_enter Try.func6, Try.ntmps6
    go_wp2_with (go_at_call 9; refine HAL.out.mono ?_; rintro e w1 ⟨rfl, hb1⟩; have HB1 := Hid.mk hb1; clear hb1 HAL)
    go_ret
    exact ⟨rfl, HB1.out⟩
  by_cases hb2 : 20 < b
  · go_enter Try.func6, Try.ntmps6
    go_wp2_with (go_at_call 9; refine HAL.out.mono ?_; rintro e w1 ⟨rfl, hb1⟩; have HB1 := Hid.mk hb1; clear hb1 HAL)
    go_ret
    exact ⟨rfl, HB1.out⟩
  obtain ⟨n, rfl⟩ : ∃ n : Nat, a = n := ⟨a.toNat, by omega⟩
  obtain ⟨k, rfl⟩ : ∃ k : Nat, b = k := ⟨b.toNat, by omega⟩
  have HN : Hid (1 ≤ n ∧ n ≤ 20 ∧ k ≤ 20) := Hid.mk (by omega)
  have HNEW : Hid (∀ W, Below w.heap.size w W → Calls Try.prog 10 #[] W fun e W' => ∃ t, e = .returned (ptV t) ∧ Hid (TbO w W' t 0 (fun A => One A (hI 0) none))) := Hid.mk (fun W hB => (o_new hB).mono (by
    rintro e W' ⟨t, rfl, HQ⟩
    exact ⟨t, rfl, Hid.mk ⟨_, HQ.out, one_none⟩⟩))
  have HA1 : Hid (∀ (i : Nat) W t, i < n → TbO w W t i (fun A => One A (hI i) none) → Calls Try.prog 11 #[ptV t, .agg #[.int .i64 (i : Int), .int .i64 1, .bool false]] W fun e W' => e = .returned (.bool true) ∧ Hid (TbO w W' t (i + 1) (fun A => One A (hI (i + 1)) none))) := Hid.mk (fun i W t hi ⟨A, h1, h2⟩ => by
    have hn := HN.out
    have hb : besB (hI i) false = true := by unfold hI; split <;> rfl
    obtain ⟨q1, q2⟩ := one_yes h1.ok h2 (l := ⟨(i : Int), 1, false⟩) rfl hb (hI_hold i _ (Int.le_refl _))
    rw [hI_put] at q2
    refine (o_ask h1 ⟨(i : Int), 1, false⟩ ⟨wf_of (show -1000 ≤ (i : Int) ∧ (i : Int) ≤ 1000 by omega), wf_of (show -1000 ≤ (1 : Int) ∧ (1 : Int) ≤ 1000 by omega)⟩ (by omega)).mono ?_
    rintro e W' ⟨rfl, HQ⟩
    exact ⟨by rw [q1], Hid.mk ⟨_, HQ.out.1, q2⟩⟩)
  have HA2 : Hid (∀ W t, TbO w W t n (fun A => One A (hI n) none) → Calls Try.prog 11 #[ptV t, .agg #[.int .i64 100, .int .i64 1, .bool true]] W fun e W' => e = .returned (.bool false) ∧ Hid (TbO w W' t (n + 1) (fun A => One A (hI n) (some (l100 :: bh 0))))) := Hid.mk (fun W t ⟨A, h1, h2⟩ => by
    have hn := HN.out
    have hb : besB (hI n) true = false := by unfold hI; rw [if_neg (by omega)]; rfl
    obtain ⟨q1, q2⟩ := one_no h1.ok h2 (l := l100) rfl (.inr hb) (hI_hold n _ (show (n : Int) ≤ 100 by omega)) (by simp)
    refine (o_ask h1 l100 ⟨wf_of (show -1000 ≤ (100 : Int) ∧ (100 : Int) ≤ 1000 by omega), wf_of (show -1000 ≤ (1 : Int) ∧ (1 : Int) ≤ 1000 by omega)⟩ (by omega)).mono ?_
    rintro e W' ⟨rfl, HQ⟩
    exact ⟨by rw [q1], Hid.mk ⟨_, HQ.out.1, q2⟩⟩)
  have HA3 : Hid (∀ (i : Nat) W t, i < k → TbO w W t (n + 1 + i) (fun A => One A (hI n) (some (l100 :: bh i))) → Calls Try.prog 11 #[ptV t, .agg #[.int .i64 (200 + (i : Int)), .int .i64 1, .bool false]] W fun e W' => e = .returned (.bool false) ∧ Hid (TbO w W' t (n + 1 + (i + 1)) (fun A => One A (hI n) (some (l100 :: bh (i + 1)))))) := Hid.mk (fun i W t hi ⟨A, h1, h2⟩ => by
    have hn := HN.out
    obtain ⟨q1, q2⟩ := one_no h1.ok h2 (l := ⟨200 + (i : Int), 1, false⟩) rfl (.inl (by simp)) (hI_hold n _ (show (n : Int) ≤ 200 + (i : Int) by omega)) (by
      intro hm
      rcases List.mem_cons.1 (show (200 + (i : Int)) ∈ l100.th :: (bh i).map Lk.th from hm) with q | q
      · have : (200 + (i : Int)) = 100 := q
        omega
      · have := bh_mem q
        omega)
    have e3 : (some (l100 :: bh i)).getD [] ++ [(⟨200 + (i : Int), 1, false⟩ : Lk)] = l100 :: bh (i + 1) := by
      rw [bh_snoc]
      simp
    rw [e3] at q2
    refine (o_ask h1 ⟨200 + (i : Int), 1, false⟩ ⟨wf_of (show -1000 ≤ 200 + (i : Int) ∧ 200 + (i : Int) ≤ 1000 by omega), wf_of (show -1000 ≤ (1 : Int) ∧ (1 : Int) ≤ 1000 by omega)⟩ (by omega)).mono ?_
    rintro e W' ⟨rfl, HQ⟩
    exact ⟨by rw [q1], Hid.mk ⟨_, HQ.out.1, q2⟩⟩)
  have HHO : Hid (∀ W t, TbO w W t (n + 1 + k) (fun A => One A (hI n) (some (l100 :: bh k))) → Calls Try.prog 18 #[ptV t, .int .i64 1] W fun e W' => ∃ ao c, e = .returned (.slice ao n c) ∧ Hid (TbO w W' t (n + 1 + k) (fun A => One A (hI n) (some (l100 :: bh k))))) := Hid.mk (fun W t ⟨A, h1, h2⟩ => by
    have hn := HN.out
    refine (o_holders h1 1 (wf_of (by omega)) (by omega)).mono ?_
    rintro e W' ⟨ao, c, rfl, HQ⟩
    have e1 : (holdL (A.held 1)).length = n := by
      rw [h2.1]
      unfold hI
      rw [if_neg (by omega)]
      show (rr 0 n).length = n
      rw [rr_len]
      omega
    rw [e1]
    exact ⟨ao, c, rfl, Hid.mk ⟨A, HQ.out.2.1, h2⟩⟩)
  have HSK : Hid (∀ W t, TbO w W t (n + 1 + k) (fun A => One A (hI n) (some (l100 :: bh k))) → Calls Try.prog 23 #[ptV t] W fun e W' => ∃ ao c, e = .returned (.slice ao 0 c) ∧ Hid (TbO w W' t (n + 1 + k) (sh3 n k 0))) := Hid.mk (fun W t ⟨A, h1, h2⟩ => by
    have hn := HN.out
    refine (o_stuck h1 (one_ne h2) (by omega)).mono ?_
    rintro e W' ⟨ao, m, c, rfl, HQ⟩
    obtain ⟨L, A', rfl, a1, a2, a3, a4, a5, a6, a7⟩ := HQ.out
    obtain rfl := one_free h1.ok h2 (sh_nh h1.ok h2 hn.2.1) a1 a2 a4
    refine ⟨ao, c, rfl, Hid.mk ⟨A, a6, .inl ⟨by omega, ?_⟩⟩⟩
    have e1 : hI n = some (rr 0 n, false) := by unfold hI; rw [if_neg (by omega)]
    rw [← e1]
    exact h2)
  have HRL : Hid (∀ (i : Nat) W t, i < n → TbO w W t (n + 1 + k) (sh3 n k i) → Calls Try.prog 14 #[ptV t, .int .i64 (i : Int), .int .i64 1] W fun e W' => ∃ ao c, e = .returned (.slice ao (if i + 1 = n then 1 else 0) c) ∧ Hid (TbO w W' t (n + 1 + k) (sh3 n k (i + 1)))) := Hid.mk (fun i W t hi ⟨A, h1, h2⟩ => by
    have hn := HN.out
    obtain ⟨q1, q2⟩ := sh3_step h2 hi
    refine (o_rel h1 i 1 (wf_of (by omega)) (wf_of (by omega)) (by omega)).mono ?_
    rintro e W' ⟨ao, c, rfl, HQ⟩
    rw [q1] at HQ ⊢
    exact ⟨ao, c, rfl, Hid.mk ⟨_, HQ.out.2.1.drop, q2⟩⟩)
  have HHO2 : Hid (∀ W t, TbO w W t (n + 1 + k) (sh3 n k n) → Calls Try.prog 18 #[ptV t, .int .i64 1] W fun e W' => ∃ ao c, e = .returned (.slice ao 1 c) ∧ Hid (LAt W' ao 1 [100] ∧ TbO w W' t (n + 1 + k) (sh3 n k n))) := Hid.mk (fun W t ⟨A, h1, h2⟩ => by
    have hn := HN.out
    refine (o_holders h1 1 (wf_of (by omega)) (by omega)).mono ?_
    rintro e W' ⟨ao, c, rfl, HQ⟩
    rw [(sh4 h2).1] at HQ ⊢
    exact ⟨ao, c, rfl, Hid.mk ⟨HQ.out.1, A, HQ.out.2.1, h2⟩⟩)
  have HSAME : Hid (∀ W t ao c, LAt W ao 1 [100] ∧ TbO w W t (n + 1 + k) (sh3 n k n) → Calls Try.prog 21 #[.slice ao 1 c, .slice (some ⟨W.heap.size, 0, none⟩) 1 1] (W.alloc (.cells #[.int .i64 100] 3)) fun e W' => e = .returned (.bool true) ∧ Hid (TbO w W' t (n + 1 + k) (sh3 n k n))) := Hid.mk (fun W t ao c ⟨hl, A, h1, h2⟩ => by
    have hB : Below W.heap.size W (W.alloc (.cells #[.int .i64 100] 3)) := (Below.refl _ W).alloc (Nat.le_refl _) _
    refine (sameints_any _ ao _ 1 1 c 1 [100] [100] (hl.next hB) (lat_one W 100) (by omega) (by omega)).mono ?_
    rintro e W' ⟨rfl, hB2⟩
    exact ⟨by simp, Hid.mk ⟨A, (h1.grow hB).grow hB2, h2⟩⟩)
  have HRL2 : Hid (∀ W t, TbO w W t (n + 1 + k) (sh3 n k n) → Calls Try.prog 14 #[ptV t, .int .i64 100, .int .i64 1] W fun e W' => ∃ ao c, e = .returned (.slice ao k c) ∧ Hid (TbO w W' t (n + 1 + k) (fun A => (holdL (A.held 1)).length = k))) := Hid.mk (fun W t ⟨A, h1, h2⟩ => by
    have hn := HN.out
    obtain ⟨_, q1, q2⟩ := sh4 h2
    refine (o_rel h1 100 1 (wf_of (by omega)) (wf_of (by omega)) (by omega)).mono ?_
    rintro e W' ⟨ao, c, rfl, HQ⟩
    rw [q1] at HQ ⊢
    exact ⟨ao, c, rfl, Hid.mk ⟨_, HQ.out.2.1.drop, q2⟩⟩)
  have HHO3 : Hid (∀ W t, TbO w W t (n + 1 + k) (fun A => (holdL (A.held 1)).length = k) → Calls Try.prog 18 #[ptV t, .int .i64 1] W fun e W' => ∃ ao c, e = .returned (.slice ao k c) ∧ Below w.heap.size w W') := Hid.mk (fun W t ⟨A, h1, h2⟩ => by
    have hn := HN.out
    refine (o_holders h1 1 (wf_of (by omega)) (by omega)).mono ?_
    rintro e W' ⟨ao, c, rfl, HQ⟩
    rw [h2]
    exact ⟨ao, c, rfl, HQ.out.2.1.bel⟩)
  go_enter Try.func6, Try.ntmps6
  go_wp2_with (first
    | (go_at_call 9; refine HAL.out.mono ?_; rintro e w1 ⟨rfl, hb1⟩; have HB1 := Hid.mk hb1; clear hb1 HAL)
    | (go_at_call 10; refine (HNEW.out _ HB1.out).mono ?_; rintro e w2 ⟨t, rfl, H2⟩; clear HNEW HB1)
    | go_in)
  go_loopw [7, 8] (fun iv _ wr => ∃ i : Nat, iv = .int .i64 i ∧ Hid (i ≤ n ∧ TbO w wr t i (fun A => One A (hI i) none))) (fun iv _ _ => n - (Go.RowKit.intOf iv).toNat)
  case atStart => exact ⟨0, rfl, Hid.mk ⟨Nat.zero_le _, H2.out⟩⟩
  case round =>
    obtain ⟨i, rfl, HI⟩ := hrel
    clear H2
    by_cases hlt : (i : Int) < (n : Int)
    · have u1 : IntKind.i64.wrap ((i : Int) + 1) = ((i + 1 : Nat) : Int) := by have := HN.out; rw [IntKind.wrap_i64]; omega
      have HLT : Hid (i < n) := Hid.mk (by omega)
      have HC := Hid.mk (HA1.out i wr t HLT.out HI.out.2)
      clear HI
      go_wp2_with (first
        | (go_at_call 11; refine HC.out.mono ?_; rintro e w3 ⟨rfl, H3⟩; clear HC)
        | go_in)
      go_roundw
      case rel => exact ⟨i + 1, rfl, Hid.mk ⟨HLT.out, H3.out⟩⟩
      case measure => (have := HLT.out; simp [Go.RowKit.intOf]; omega)
    · obtain rfl : i = n := by have := HI.out.1; omega
      have HC := Hid.mk (HA2.out wr t HI.out.2)
      clear HI HA1
      go_wp2_with (first
        | (go_at_call 11; refine HC.out.mono ?_; rintro e w3 ⟨rfl, H3⟩; clear HC)
        | go_in)
      go_loopw [10, 11] (fun iv _ wr => ∃ j : Nat, iv = .int .i64 j ∧ Hid (j ≤ k ∧ TbO w wr t (i + 1 + j) (fun A => One A (hI i) (some (l100 :: bh j))))) (fun iv _ _ => k - (Go.RowKit.intOf iv).toNat)
      case atStart => exact ⟨0, rfl, Hid.mk ⟨Nat.zero_le _, H3.out⟩⟩
      case round =>
        obtain ⟨j, rfl, HI⟩ := hrel
        clear H3
        by_cases hlt2 : (j : Int) < (k : Int)
        · have u1 : IntKind.i64.wrap ((j : Int) + 1) = ((j + 1 : Nat) : Int) := by have := HN.out; rw [IntKind.wrap_i64]; omega
          have u2 : IntKind.i64.wrap (200 + (j : Int)) = 200 + (j : Int) := by have := HN.out; rw [IntKind.wrap_i64]; omega
          have HLT : Hid (j < k) := Hid.mk (by omega)
          have HC := Hid.mk (HA3.out j wr t HLT.out HI.out.2)
          clear HI
          go_wp2_with (first
            | (go_at_call 11; refine HC.out.mono ?_; rintro e w4 ⟨rfl, H4⟩; clear HC)
            | go_in)
          go_roundw
          case rel => exact ⟨j + 1, rfl, Hid.mk ⟨HLT.out, H4.out⟩⟩
          case measure => (have := HLT.out; simp [Go.RowKit.intOf]; omega)
        · obtain rfl : j = k := by have := HI.out.1; omega
          have HC := Hid.mk (HHO.out wr t HI.out.2)
          clear HI HA3
          go_wp2_with (first
            | (go_at_call 18; refine HC.out.mono ?_; rintro e w4 ⟨ao4, c4, rfl, H4⟩; have HD := Hid.mk (HSK.out w4 t H4.out); clear HC H4)
            | (go_at_call 23; refine HD.out.mono ?_; rintro e w5 ⟨ao5, c5, rfl, H5⟩; clear HD)
            | go_in)
          go_loopw [12, 13] (fun iv _ wr => ∃ m : Nat, iv = .int .i64 m ∧ Hid (m ≤ i ∧ TbO w wr t (i + 1 + j) (sh3 i j m))) (fun iv _ _ => i - (Go.RowKit.intOf iv).toNat)
          case atStart => exact ⟨0, rfl, Hid.mk ⟨Nat.zero_le _, H5.out⟩⟩
          case round =>
            obtain ⟨m, rfl, HI⟩ := hrel
            clear H5 HSK HHO
            by_cases hlt3 : (m : Int) < (i : Int)
            · have u1 : IntKind.i64.wrap ((m : Int) + 1) = ((m + 1 : Nat) : Int) := by have := HN.out; rw [IntKind.wrap_i64]; omega
              have HLT : Hid (m < i) := Hid.mk (by omega)
              have HC := Hid.mk (HRL.out m wr t HLT.out HI.out.2)
              have u3 : IntKind.i64.wrap ((i : Int) - 1) = (i : Int) - 1 := by have := HN.out; rw [IntKind.wrap_i64]; omega
              have u4 : wrap64 ((i : Int) - 1) = (i : Int) - 1 := by have := HN.out; unfold wrap64; omega
              clear HI
              by_cases he : m + 1 = i
              · rw [if_pos he] at HC
                have e1 : ((m : Int) == (i : Int) - 1) = true := by simp; omega
                have e2 : (m : Int) = (i : Int) - 1 := by omega
                clear he e2
                go_wp2_with (first
                  | (go_at_call 14; refine HC.out.mono ?_; rintro e w6 ⟨ao6, c6, rfl, H6⟩; clear HC)
                  | go_in)
                go_roundw
                case rel => exact ⟨m + 1, rfl, Hid.mk ⟨HLT.out, H6.out⟩⟩
                case measure => (have := HLT.out; simp [Go.RowKit.intOf]; omega)
              · rw [if_neg he] at HC
                have e1 : ((m : Int) == (i : Int) - 1) = false := by simp; omega
                have e2 : ¬ (m : Int) = (i : Int) - 1 := by omega
                clear he
                go_wp2_with (first
                  | (go_at_call 14; refine HC.out.mono ?_; rintro e w6 ⟨ao6, c6, rfl, H6⟩; clear HC)
                  | go_in)
                go_roundw
                case rel => exact ⟨m + 1, rfl, Hid.mk ⟨HLT.out, H6.out⟩⟩
                case measure => (have := HLT.out; simp [Go.RowKit.intOf]; omega)
            · obtain rfl : m = i := by have := HI.out.1; omega
              have HC := Hid.mk (HHO2.out wr t HI.out.2)
              clear HI HRL
              go_wp2_with (first
                | (go_at_call 18; refine HC.out.mono ?_; rintro e w6 ⟨ao6, c6, rfl, H6⟩; have HS := Hid.mk (HSAME.out w6 t ao6 c6 H6.out); clear HC H6 HSAME)
                | (go_at_call 21; refine HS.out.mono ?_; rintro e w7 ⟨rfl, H7⟩; have HR := Hid.mk (HRL2.out w7 t H7.out); clear HS H7 HRL2)
                | (go_at_call 14; refine HR.out.mono ?_; rintro e w8 ⟨ao8, c8, rfl, H8⟩; have HD := Hid.mk (HHO3.out w8 t H8.out); clear HR H8 HHO3)
                | (go_at_call 18; refine HD.out.mono ?_; rintro e w9 ⟨ao9, c9, rfl, hB9⟩; have HB9 := Hid.mk hB9; clear hB9 HD)
                | go_in)
              go_ret
              exact ⟨by simp, HB9.out⟩
end Go.Proofs.Ytoediflikoedaaa
