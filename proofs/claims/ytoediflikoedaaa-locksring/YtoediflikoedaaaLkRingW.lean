/-
  The law LocksRing.
-/
import Derived.Test.YtoediflikoedaaaLkRing
import Derived.Test.YtoediflikoedaaaLkSharedW
namespace Go.Proofs.Ytoediflikoedaaa
open Go Go.Proofs Go.RowKit Go.Shelf
attribute [local go_sem] Oper.semAt_some
theorem rr_get {a c k : Nat} (h : k < c - a) : (rr a c).getD k 0 = (a : Int) + k := by
  unfold rr
  rw [List.getD_eq_getElem?_getD, List.getElem?_map, List.getElem?_range' h]
  simp
theorem rr2_get {n b m : Nat} (h : m < n + b) : (rr 0 n ++ rr 100 (100 + b)).getD m 0 = if m < n then (m : Int) else 100 + (m : Int) - n := by
  rw [List.getD_eq_getElem?_getD]
  by_cases q : m < n
  · rw [List.getElem?_append_left (by rw [rr_len]; omega), ← List.getD_eq_getElem?_getD, rr_get (by omega), if_pos q]
    simp
  · rw [List.getElem?_append_right (by rw [rr_len]; omega), rr_len, ← List.getD_eq_getElem?_getD, rr_get (by omega), if_neg q]
    omega
set_option maxRecDepth 100000 in
set_option maxHeartbeats 8000000 in
theorem ring_any (w : World) (a b c : Int) : Calls Try.prog 7 #[.int .i64 a, .int .i64 b, .int .i64 c] w fun e w' => e = .returned (.bool true) ∧ Below w.heap.size w w' := by
  have HAL := Hid.mk (alive_any w)
  by_cases ha1 : a < 2
  · go_enter Try.func7, Try.ntmps7
    go_wp2_with (go_at_call 9; refine HAL.out.mono ?_; rintro e w1 ⟨rfl, hb1⟩; have HB1 := Hid.mk hb1; clear hb1 HAL)
    go_ret
    exact ⟨rfl, HB1.out⟩
  by_cases ha2 : 15 < a
  · go_enter Try.func7, Try.ntmps7
    go_wp2_with (go_at_call 9; refine HAL.out.mono ?_; rintro e w1 ⟨rfl, hb1⟩; have HB1 := Hid.mk hb1; clear hb1 HAL)
    go_ret
    exact ⟨rfl, HB1.out⟩
  by_cases hb1 : b < 0
  · go_enter Try.func7, Try.ntmps7
    go_wp2_with (go_at_call 9; refine HAL.out.mono ?_; rintro e w1 ⟨rfl, hb1⟩; have HB1 := Hid.mk hb1; clear hb1 HAL)
    go_ret
    exact ⟨rfl, HB1.out⟩
  by_cases hb2 : 10 < b
  · go_enter Try.func7, Try.ntmps7
    go_wp2_with (go_at_call 9; refine HAL.out.mono ?_; rintro e w1 ⟨rfl, hb1⟩; have HB1 := Hid.mk hb1; clear hb1 HAL)
    go_ret
    exact ⟨rfl, HB1.out⟩
  by_cases hc1 : c < 0
  · go_enter Try.func7, Try.ntmps7
    go_wp2_with (go_at_call 9; refine HAL.out.mono ?_; rintro e w1 ⟨rfl, hb1⟩; have HB1 := Hid.mk hb1; clear hb1 HAL)
    go_ret
    exact ⟨rfl, HB1.out⟩
  by_cases hc2 : 10 < c
  · go_enter Try.func7, Try.ntmps7
    go_wp2_with (go_at_call 9; refine HAL.out.mono ?_; rintro e w1 ⟨rfl, hb1⟩; have HB1 := Hid.mk hb1; clear hb1 HAL)
    go_ret
    exact ⟨rfl, HB1.out⟩
  obtain ⟨n, rfl⟩ : ∃ n : Nat, a = n := ⟨a.toNat, by omega⟩
  obtain ⟨k, rfl⟩ : ∃ k : Nat, b = k := ⟨b.toNat, by omega⟩
  obtain ⟨o, rfl⟩ : ∃ o : Nat, c = o := ⟨c.toNat, by omega⟩
  have HN : Hid (2 ≤ n ∧ n ≤ 15 ∧ k ≤ 10 ∧ o ≤ 10) := Hid.mk (by omega)
  have hn0 : ¬ (n : Int) = 0 := by omega
  have HNEW : Hid (∀ W, Below w.heap.size w W → Calls Try.prog 10 #[] W fun e W' => ∃ t, e = .returned (ptV t) ∧ Hid (TbO w W' t 0 (Rg n 0 false 0 0 0))) := Hid.mk (fun W hB => (o_new hB).mono (by
    rintro e W' ⟨t, rfl, HQ⟩
    exact ⟨t, rfl, Hid.mk ⟨_, HQ.out, rg_none n⟩⟩))
  have ASK : ∀ (l : Lk) (N : Nat) (P Q : Ta → Prop), (-1000 ≤ l.th ∧ l.th ≤ 1000) → (-1000 ≤ l.tg ∧ l.tg ≤ 1000) → N ≤ 100 → (∀ A, A.Ok → P A → Q (A.ask l)) → ∀ W t, TbO w W t N P → Calls Try.prog 11 #[ptV t, lkV l] W fun e W' => (∃ r, e = .returned (.bool r)) ∧ Hid (TbO w W' t (N + 1) Q) := fun l N P Q h1 h2 hN hPQ W t ⟨A, hA, hP⟩ => by
    refine (o_ask hA l ⟨wf_of h1, wf_of h2⟩ (by omega)).mono ?_
    rintro e W' ⟨rfl, HQ⟩
    exact ⟨⟨_, rfl⟩, Hid.mk ⟨_, HQ.out.1, hPQ A hA.ok hP⟩⟩
  have HA1 : Hid (∀ (i : Nat) W t, i < n → TbO w W t i (Rg n i false 0 0 0) → Calls Try.prog 11 #[ptV t, .agg #[.int .i64 (i : Int), .int .i64 (i : Int), .bool true]] W fun e W' => (∃ r, e = .returned (.bool r)) ∧ Hid (TbO w W' t (i + 1) (Rg n (i + 1) false 0 0 0))) := Hid.mk (fun i W t _hi h => ASK ⟨i, i, true⟩ i _ _ (by have := HN.out; simp only; omega) (by have := HN.out; simp only; omega) (by have := HN.out; omega) (fun A hA hP => rg_1 hA hP) W t h)
  have HA2 : Hid (∀ (j : Nat) W t, j < n → TbO w W t (n + j) (Rg n n false j 0 0) → Calls Try.prog 11 #[ptV t, .agg #[.int .i64 (j : Int), .int .i64 (((j : Int) + 1) % n), .bool true]] W fun e W' => (∃ r, e = .returned (.bool r)) ∧ Hid (TbO w W' t (n + (j + 1)) (Rg n n false (j + 1) 0 0))) := Hid.mk (fun j W t hj h => by
    have hn := HN.out
    have hm := emod_in (j + 1) n (by omega)
    rw [show (((j + 1 : Nat) : Int)) = (j : Int) + 1 by omega] at hm
    exact ASK ⟨j, ((j : Int) + 1) % n, true⟩ (n + j) _ _ (by simp only; omega) (by simp only; omega) (by omega) (fun A _ hP => rg_2 hP hj hn.1) W t h)
  have HA3 : Hid (∀ (j : Nat) W t, j < k → TbO w W t (n + n + j) (Rg n n false n j 0) → Calls Try.prog 11 #[ptV t, .agg #[.int .i64 (100 + (j : Int)), .int .i64 ((j : Int) % n), .bool false]] W fun e W' => (∃ r, e = .returned (.bool r)) ∧ Hid (TbO w W' t (n + n + (j + 1)) (Rg n n false n (j + 1) 0))) := Hid.mk (fun j W t hj h => by
    have hn := HN.out
    have hm := emod_in j n (by omega)
    exact ASK ⟨100 + (j : Int), (j : Int) % n, false⟩ (n + n + j) _ _ (by simp only; omega) (by simp only; omega) (by omega) (fun A _ hP => rg_3 hP ⟨hn.1, hn.2.1⟩ (by omega)) W t h)
  have HA4 : Hid (∀ W t, TbO w W t (n + n + k) (Rg n n false n k 0) → Calls Try.prog 11 #[ptV t, .agg #[.int .i64 500, .int .i64 50, .bool true]] W fun e W' => (∃ r, e = .returned (.bool r)) ∧ Hid (TbO w W' t (n + n + k + 1) (Rg n n true n k 0))) := Hid.mk (fun W t h => by
    have hn := HN.out
    exact ASK ⟨500, 50, true⟩ (n + n + k) _ _ (by simp only; omega) (by simp only; omega) (by omega) (fun A hA hP => rg_4 hA hP ⟨hn.1, hn.2.1⟩ hn.2.2.1) W t h)
  have HA5 : Hid (∀ (j : Nat) W t, j < o → TbO w W t (n + n + k + 1 + j) (Rg n n true n k j) → Calls Try.prog 11 #[ptV t, .agg #[.int .i64 (300 + (j : Int)), .int .i64 50, .bool true]] W fun e W' => (∃ r, e = .returned (.bool r)) ∧ Hid (TbO w W' t (n + n + k + 1 + (j + 1)) (Rg n n true n k (j + 1)))) := Hid.mk (fun j W t hj h => by
    have hn := HN.out
    exact ASK ⟨300 + (j : Int), 50, true⟩ (n + n + k + 1 + j) _ _ (by simp only; omega) (by simp only; omega) (by omega) (fun A _ hP => rg_5 hP ⟨hn.1, hn.2.1⟩ hn.2.2.1 (by omega)) W t h)
  have HSK : Hid (∀ W t, TbO w W t (n + n + k + 1 + o) (Rg n n true n k o) → Calls Try.prog 23 #[ptV t] W fun e W' => ∃ ao c, e = .returned (.slice ao (n + k) c) ∧ Hid (LAt W' ao (n + k) (rr 0 n ++ rr 100 (100 + k)) ∧ Below w.heap.size w W')) := Hid.mk (fun W t ⟨A, h1, h2⟩ => by
    have hn := HN.out
    refine (o_stuck h1 (fun e => ?_) (by omega)).mono ?_
    · have := h2.1 0
      rw [e] at this
      unfold hdF at this
      rw [if_pos (by omega)] at this
      cases this
    rintro e W' ⟨ao, m, c, rfl, HQ⟩
    obtain ⟨L, A', rfl, a1, a2, a3, a4, a5, a6, a7⟩ := HQ.out
    obtain rfl := rgk_end hn.2.1 (rgk_steps hn.2.1 a1 (rgk_start h1.ok h2 ⟨hn.1, hn.2.1⟩ hn.2.2.1 hn.2.2.2)) a2 a4
    have hl : (rr 0 n ++ rr 100 (100 + k)).length = n + k := by rw [List.length_append, rr_len, rr_len]; omega
    rw [hl] at a5 ⊢
    exact ⟨ao, c, rfl, Hid.mk ⟨a5, a6.bel⟩⟩)
  clear ASK
  go_enter Try.func7, Try.ntmps7
  go_wp2_with (first
    | (go_at_call 9; refine HAL.out.mono ?_; rintro e w1 ⟨rfl, hb1⟩; have HB1 := Hid.mk hb1; clear hb1 HAL)
    | (go_at_call 10; refine (HNEW.out _ HB1.out).mono ?_; rintro e w2 ⟨t, rfl, H2⟩; clear HNEW HB1)
    | go_in)
  go_loopw [9] (fun iv wr => ∃ i : Nat, iv = .int .i64 i ∧ Hid (i ≤ n ∧ TbO w wr t i (Rg n i false 0 0 0))) (fun iv _ => n - (Go.RowKit.intOf iv).toNat)
  case atStart => exact ⟨0, rfl, Hid.mk ⟨Nat.zero_le _, H2.out⟩⟩
  case round =>
    obtain ⟨i, rfl, HI⟩ := hrel
    clear H2
    by_cases hlt : (i : Int) < (n : Int)
    · have u1 : IntKind.i64.wrap ((i : Int) + 1) = ((i + 1 : Nat) : Int) := by have := HN.out; rw [IntKind.wrap_i64]; omega
      have HLT : Hid (i < n) := Hid.mk (by omega)
      have HC := Hid.mk (HA1.out i wr t HLT.out HI.out.2)
      clear HI
      go_wp2_with (first
        | (go_at_call 11; refine HC.out.mono ?_; rintro e w3 ⟨⟨r3, rfl⟩, H3⟩; clear HC)
        | go_in)
      go_roundw
      case rel => exact ⟨i + 1, rfl, Hid.mk ⟨HLT.out, H3.out⟩⟩
      case measure => (have := HLT.out; simp [Go.RowKit.intOf]; omega)
    · obtain rfl : i = n := by have := HI.out.1; omega
      clear HA1
      go_wp2
      go_loopw [10] (fun iv wr => ∃ j : Nat, iv = .int .i64 j ∧ Hid (j ≤ i ∧ TbO w wr t (i + j) (Rg i i false j 0 0))) (fun iv _ => i - (Go.RowKit.intOf iv).toNat)
      case atStart => exact ⟨0, rfl, Hid.mk ⟨Nat.zero_le _, HI.out.2⟩⟩
      case round =>
        obtain ⟨j, rfl, HJ⟩ := hrel
        clear HI
        by_cases hlt2 : (j : Int) < (i : Int)
        · have u1 : IntKind.i64.wrap ((j : Int) + 1) = ((j + 1 : Nat) : Int) := by have := HN.out; rw [IntKind.wrap_i64]; omega
          have u0 : IntKind.i64.wrap ((j : Int) + 1) = (j : Int) + 1 := by have := HN.out; rw [IntKind.wrap_i64]; omega
          have u2 : Int.tmod ((j : Int) + 1) (i : Int) = ((j : Int) + 1) % (i : Int) := Int.tmod_eq_emod_of_nonneg (by omega)
          have HLT : Hid (j < i) := Hid.mk (by omega)
          have HC := Hid.mk (HA2.out j wr t HLT.out HJ.out.2)
          clear HJ
          go_wp2_with (first
            | (go_at_call 11; refine HC.out.mono ?_; rintro e w3 ⟨⟨r3, rfl⟩, H3⟩; clear HC)
            | go_in)
          go_roundw
          case rel => exact ⟨j + 1, rfl, Hid.mk ⟨HLT.out, H3.out⟩⟩
          case measure => (have := HLT.out; simp [Go.RowKit.intOf]; omega)
        · obtain rfl : j = i := by have := HJ.out.1; omega
          clear HA2
          go_wp2
          go_loopw [11] (fun iv wr => ∃ q : Nat, iv = .int .i64 q ∧ Hid (q ≤ k ∧ TbO w wr t (j + j + q) (Rg j j false j q 0))) (fun iv _ => k - (Go.RowKit.intOf iv).toNat)
          case atStart => exact ⟨0, rfl, Hid.mk ⟨Nat.zero_le _, HJ.out.2⟩⟩
          case round =>
            obtain ⟨q, rfl, HI⟩ := hrel
            clear HJ
            by_cases hlt3 : (q : Int) < (k : Int)
            · have u1 : IntKind.i64.wrap ((q : Int) + 1) = ((q + 1 : Nat) : Int) := by have := HN.out; rw [IntKind.wrap_i64]; omega
              have u0 : IntKind.i64.wrap (100 + (q : Int)) = 100 + (q : Int) := by have := HN.out; rw [IntKind.wrap_i64]; omega
              have u2 : Int.tmod (q : Int) (j : Int) = (q : Int) % (j : Int) := Int.tmod_eq_emod_of_nonneg (by omega)
              have HLT : Hid (q < k) := Hid.mk (by omega)
              have HC := Hid.mk (HA3.out q wr t HLT.out HI.out.2)
              clear HI
              go_wp2_with (first
                | (go_at_call 11; refine HC.out.mono ?_; rintro e w3 ⟨⟨r3, rfl⟩, H3⟩; clear HC)
                | go_in)
              go_roundw
              case rel => exact ⟨q + 1, rfl, Hid.mk ⟨HLT.out, H3.out⟩⟩
              case measure => (have := HLT.out; simp [Go.RowKit.intOf]; omega)
            · obtain rfl : q = k := by have := HI.out.1; omega
              have HC := Hid.mk (HA4.out wr t HI.out.2)
              clear HA3 HI HA4
              go_wp2_with (first
                | (go_at_call 11; refine HC.out.mono ?_; rintro e w3 ⟨⟨r3, rfl⟩, H3⟩; clear HC)
                | go_in)
              go_loopw [12] (fun iv wr => ∃ s : Nat, iv = .int .i64 s ∧ Hid (s ≤ o ∧ TbO w wr t (j + j + q + 1 + s) (Rg j j true j q s))) (fun iv _ => o - (Go.RowKit.intOf iv).toNat)
              case atStart => exact ⟨0, rfl, Hid.mk ⟨Nat.zero_le _, H3.out⟩⟩
              case round =>
                obtain ⟨s, rfl, HI⟩ := hrel
                clear H3
                by_cases hlt4 : (s : Int) < (o : Int)
                · have u1 : IntKind.i64.wrap ((s : Int) + 1) = ((s + 1 : Nat) : Int) := by have := HN.out; rw [IntKind.wrap_i64]; omega
                  have u0 : IntKind.i64.wrap (300 + (s : Int)) = 300 + (s : Int) := by have := HN.out; rw [IntKind.wrap_i64]; omega
                  have HLT : Hid (s < o) := Hid.mk (by omega)
                  have HC := Hid.mk (HA5.out s wr t HLT.out HI.out.2)
                  clear HI
                  go_wp2_with (first
                    | (go_at_call 11; refine HC.out.mono ?_; rintro e w3 ⟨⟨r3, rfl⟩, H3⟩; clear HC)
                    | go_in)
                  go_roundw
                  case rel => exact ⟨s + 1, rfl, Hid.mk ⟨HLT.out, H3.out⟩⟩
                  case measure => (have := HLT.out; simp [Go.RowKit.intOf]; omega)
                · obtain rfl : s = o := by have := HI.out.1; omega
                  have HC := Hid.mk (HSK.out wr t HI.out.2)
                  have u5 : IntKind.i64.wrap ((j : Int) + (q : Int)) = ((j + q : Nat) : Int) := by have := HN.out; rw [IntKind.wrap_i64]; omega
                  have u6 : wrap64 ((j : Int) + (q : Int)) = (j : Int) + (q : Int) := by have := HN.out; unfold wrap64; omega
                  clear HA5 HI HSK
                  go_wp2_with (first
                    | (go_at_call 23; refine HC.out.mono ?_; rintro e w3 ⟨ao3, c3, rfl, H3⟩; clear HC)
                    | go_in)
                  go_loopw [14, 15] (fun iv _ wr => ∃ m : Nat, iv = .int .i64 m ∧ Hid (m ≤ j + q ∧ LAt wr ao3 (j + q) (rr 0 j ++ rr 100 (100 + q)) ∧ Below w.heap.size w wr)) (fun iv _ _ => j + q - (Go.RowKit.intOf iv).toNat)
                  case atStart => exact ⟨0, rfl, Hid.mk ⟨Nat.zero_le _, H3.out⟩⟩
                  case round =>
                    obtain ⟨m, rfl, HI⟩ := hrel
                    clear H3
                    by_cases hlt5 : (m : Int) < ((j + q : Nat) : Int)
                    · have u1 : IntKind.i64.wrap ((m : Int) + 1) = ((m + 1 : Nat) : Int) := by have := HN.out; rw [IntKind.wrap_i64]; omega
                      have HLT : Hid (m < j + q) := Hid.mk (by omega)
                      obtain ⟨a', rfl, c1⟩ := HI.out.2.1.at m HLT.out
                      rw [rr2_get HLT.out] at c1
                      by_cases hm : m < j
                      · rw [if_pos hm] at c1
                        have g1 : (m : Int) < (j : Int) := by omega
                        clear hm
                        go_wp2
                        go_roundw
                        case rel => exact ⟨m + 1, rfl, Hid.mk ⟨HLT.out, HI.out.2⟩⟩
                        case measure => (have := HLT.out; simp [Go.RowKit.intOf]; omega)
                      · rw [if_neg hm] at c1
                        have g1 : ¬ (m : Int) < (j : Int) := by omega
                        have u0 : IntKind.i64.wrap (100 + (m : Int)) = 100 + (m : Int) := by have := HN.out; rw [IntKind.wrap_i64]; omega
                        have u2 : IntKind.i64.wrap (100 + (m : Int) - (j : Int)) = 100 + (m : Int) - (j : Int) := by have := HN.out; rw [IntKind.wrap_i64]; omega
                        clear hm
                        go_wp2
                        go_roundw
                        case rel => exact ⟨m + 1, rfl, Hid.mk ⟨HLT.out, HI.out.2⟩⟩
                        case measure => (have := HLT.out; simp [Go.RowKit.intOf]; omega)
                    · have HB := Hid.mk HI.out.2.2
                      clear HI
                      go_wp2
                      go_ret
                      exact ⟨rfl, HB.out⟩
end Go.Proofs.Ytoediflikoedaaa
