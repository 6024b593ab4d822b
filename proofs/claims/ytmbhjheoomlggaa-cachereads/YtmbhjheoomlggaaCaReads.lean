/-
  CacheReads: a block that is kept is not read again, and one that is not is.
-/
import Derived.Test.YtmbhjheoomlggaaCaQ
namespace Go.Proofs.Ytmbhjheoomlggaa
open Go Go.Proofs Go.RowKit Go.Shelf
/-- The state behind t gets. -/
def RdS (w W : World) (c dd size n t : Nat) : Prop := Cd w W c dd size (rdN size n t : Int) (kl (newS 20) (qN size n t)) (newS 20) ∧ Lru size (qN size n t)
set_option maxRecDepth 100000 in
set_option maxHeartbeats 4000000 in
theorem readsl_any (w : World) (a b r : Int) : Calls Try.prog 7 #[.int .i64 a, .int .i64 b, .int .i64 r] w fun e w' => e = .returned (.bool true) ∧ Below w.heap.size w w' := by
  have HAL := Hid.mk (alive_any w)
  by_cases q0 : a < 1
  · go_enter Try.func7, Try.ntmps7
    go_wp2_with (go_at_call 8; refine HAL.out.mono ?_; rintro e w1 ⟨rfl, hb1⟩; have HB1 := Hid.mk hb1; clear hb1 HAL)
    go_ret
    exact ⟨rfl, HB1.out⟩
  by_cases q1 : 12 < a
  · go_enter Try.func7, Try.ntmps7
    go_wp2_with (go_at_call 8; refine HAL.out.mono ?_; rintro e w1 ⟨rfl, hb1⟩; have HB1 := Hid.mk hb1; clear hb1 HAL)
    go_ret
    exact ⟨rfl, HB1.out⟩
  by_cases q2 : b < 1
  · go_enter Try.func7, Try.ntmps7
    go_wp2_with (go_at_call 8; refine HAL.out.mono ?_; rintro e w1 ⟨rfl, hb1⟩; have HB1 := Hid.mk hb1; clear hb1 HAL)
    go_ret
    exact ⟨rfl, HB1.out⟩
  by_cases q3 : 12 < b
  · go_enter Try.func7, Try.ntmps7
    go_wp2_with (go_at_call 8; refine HAL.out.mono ?_; rintro e w1 ⟨rfl, hb1⟩; have HB1 := Hid.mk hb1; clear hb1 HAL)
    go_ret
    exact ⟨rfl, HB1.out⟩
  by_cases q4 : r < 1
  · go_enter Try.func7, Try.ntmps7
    go_wp2_with (go_at_call 8; refine HAL.out.mono ?_; rintro e w1 ⟨rfl, hb1⟩; have HB1 := Hid.mk hb1; clear hb1 HAL)
    go_ret
    exact ⟨rfl, HB1.out⟩
  by_cases q5 : 6 < r
  · go_enter Try.func7, Try.ntmps7
    go_wp2_with (go_at_call 8; refine HAL.out.mono ?_; rintro e w1 ⟨rfl, hb1⟩; have HB1 := Hid.mk hb1; clear hb1 HAL)
    go_ret
    exact ⟨rfl, HB1.out⟩
  obtain ⟨size, rfl⟩ : ∃ x : Nat, a = x := ⟨a.toNat, by omega⟩
  obtain ⟨n, rfl⟩ : ∃ x : Nat, b = x := ⟨b.toNat, by omega⟩
  obtain ⟨R, rfl⟩ : ∃ x : Nat, r = x := ⟨r.toNat, by omega⟩
  have p1 : 1 ≤ size := by omega
  have p2 : size ≤ 12 := by omega
  have p3 : 1 ≤ n := by omega
  have p4 : n ≤ 12 := by omega
  have p5 : 1 ≤ R := by omega
  have p6 : R ≤ 6 := by omega
  have PP := Hid.mk (And.intro p1 (And.intro p2 (And.intro p3 (And.intro p4 (And.intro p5 p6)))))
  have HD : Hid (∀ W, Below w.heap.size w W → Calls Try.prog 9 #[.int .i64 20] W fun e w' => ∃ dd, e = .returned (ptV dd) ∧ Dk.DiskAt (fun k => w.heap.size ≤ k) w' dd (newS 20) ∧ Below w.heap.size w w') := Hid.mk (fun W hB => (cd_made W 20 (by omega)).mono (by
    rintro e w' ⟨dd, rfl, _, hd, hB'⟩
    exact ⟨dd, rfl, hd.mono (fun k _ hk => Nat.le_trans hB.size hk), hB.trans (hB'.mono hB.size)⟩))
  have z1 : szN (size : Int) = size := by unfold szN; omega
  have HS0 : Hid (∀ W c dd, Cd w W c dd (szN (size : Int)) 0 [] (newS 20) → RdS w W c dd size n (0 * n)) := Hid.mk (fun W c dd h => by
    rw [z1] at h
    rw [Nat.zero_mul]
    refine ⟨?_, p1, by simp [qN], by simp [qN]⟩
    have e1 : (rdN size n 0 : Int) = 0 := by unfold rdN; split <;> simp
    rw [e1, show qN size n 0 = [] by simp [qN]]
    exact h)
  have HG : Hid (∀ W c dd k j, k < R → j < n → RdS w W c dd size n (k * n + j) → Calls Try.prog 12 #[ptV c, .int .i64 (j : Int)] W fun e w' => ∃ v, e = .returned v ∧ Calls Try.prog 15 #[ptV c, .int .i64 (j : Int)] w' fun e w'' => ∃ v, e = .returned v ∧ RdS w w'' c dd size n (k * n + (j + 1))) := Hid.mk (fun W c dd k j hk hj h => by
    have ht : k * n + j < 72 := by
      have h1 : k * n + n ≤ R * n := by rw [← Nat.succ_mul]; exact Nat.mul_le_mul_right n hk
      have h2 : R * n ≤ 6 * 12 := Nat.mul_le_mul p6 p4
      omega
    have hm : (k * n + j) % n = j := by rw [Nat.mul_comm, Nat.mul_add_mod]; exact Nat.mod_eq_of_lt hj
    obtain ⟨e1, e2⟩ := q_step p1 p2 p3 p4 ht
    rw [hm] at e1 e2
    have hb : rdN size n (k * n + j) ≤ 72 := by unfold rdN; split <;> omega
    refine (use_get h.1 h.2 (by omega) j (by omega) (by omega) (by omega)).mono ?_
    rintro e w' ⟨g, cap, rfl, h'⟩
    rw [e2] at h'
    have hb2 : rdN size n (k * n + j + 1) ≤ 73 := by unfold rdN; split <;> omega
    refine ⟨_, rfl, (use_rel h.2 (by omega) j (by omega) h' (by omega) (by omega)).mono ?_⟩
    rintro e w'' ⟨rfl, h''⟩
    have hl := h.2.step j
    rw [e1] at h'' hl
    exact ⟨_, rfl, h'', hl⟩)
  have HNX : Hid (∀ W c dd k, RdS w W c dd size n (k * n + n) → RdS w W c dd size n ((k + 1) * n)) := Hid.mk (fun W c dd k h => by rw [Nat.succ_mul]; exact h)
  have HRD : Hid (∀ W c dd, RdS w W c dd size n (R * n) → Calls Try.prog 24 #[ptV c] W fun e w' => e = .returned (.int .i64 (rdN size n (R * n) : Int)) ∧ w' = W) := Hid.mk (fun W c dd h => cd_reads h.1.at')
  have HEND : Hid (rdN size n (R * n) = if size < n then n * R else n) := Hid.mk (by
    unfold rdN
    have h1 : 1 * n ≤ R * n := Nat.mul_le_mul_right n p5
    by_cases hc : size < n
    · rw [if_neg (by omega), if_pos hc, Nat.mul_comm]
    · rw [if_pos (by omega), if_neg hc]; omega)
  have hmul : IntKind.i64.wrap ((n : Int) * (R : Int)) = ((n * R : Nat) : Int) := by
    have h2 : n * R ≤ 12 * 6 := Nat.mul_le_mul p4 p6
    rw [← Int.natCast_mul, IntKind.wrap_i64]
    omega
  clear z1 p1 p2 p3 p4 p5 p6
  go_enter Try.func7, Try.ntmps7
  go_wp2_with (first
    | (go_at_call 8; refine HAL.out.mono ?_; rintro e w1 ⟨rfl, hb1⟩; have HB1 := Hid.mk hb1; clear hb1 HAL)
    | (go_at_call 9; refine (HD.out _ HB1.out).mono ?_; rintro e w2 ⟨dd, rfl, hd2, hb2⟩; have HN := Hid.mk (Cd.new hd2 hb2 (size : Int)); clear hd2 hb2 HD)
    | (go_at_call 10; refine HN.out.mono ?_; rintro e w3 ⟨c, rfl, h3⟩; have H3 := Hid.mk (HS0.out _ _ _ h3); clear h3 HN HS0))
  go_loopw [9] (fun i wr => ∃ k : Nat, i = .int .i64 k ∧ Hid (k ≤ R) ∧ Hid (RdS w wr c dd size n (k * n))) (fun i _ => R - (intOf i).toNat)
  case atStart => exact ⟨0, rfl, Hid.mk (Nat.zero_le _), H3⟩
  case round =>
    obtain ⟨k, rfl, hk, HK⟩ := hrel
    clear H3
    have hkb : k ≤ 6 := by have h1 := hk.out; have h2 := PP.out; omega
    have hw1 : IntKind.i64.wrap ((k : Int) + 1) = (k : Int) + 1 := by rw [IntKind.wrap_i64]; omega
    by_cases hlt : (k : Int) < (R : Int)
    · have HLT : Hid (k < R) := Hid.mk (by omega)
      go_wp2_with fail
      go_loopw [10] (fun i wr => ∃ j : Nat, i = .int .i64 j ∧ Hid (j ≤ n) ∧ Hid (RdS w wr c dd size n (k * n + j))) (fun i _ => n - (intOf i).toNat)
      case atStart => exact ⟨0, rfl, Hid.mk (Nat.zero_le _), HK⟩
      case round =>
        obtain ⟨j, rfl, hj, HJ⟩ := hrel
        clear HK
        have hjb : j ≤ 12 := by have h1 := hj.out; have h2 := PP.out; omega
        have hw2 : IntKind.i64.wrap ((j : Int) + 1) = (j : Int) + 1 := by rw [IntKind.wrap_i64]; omega
        by_cases hlj : (j : Int) < (n : Int)
        · have HLJ : Hid (j < n) := Hid.mk (by omega)
          go_wp2_with (first
            | (go_at_call 12; refine (HG.out _ _ _ _ _ HLT.out HLJ.out HJ.out).mono ?_; rintro e w4 ⟨v4, rfl, h4⟩; have H4 := Hid.mk h4; clear h4)
            | (go_at_call 15; refine H4.out.mono ?_; rintro e w5 ⟨v5, rfl, h5⟩; have H5 := Hid.mk h5; clear h5 H4))
          go_roundw
          case rel => exact ⟨j + 1, by go_num, Hid.mk HLJ.out, H5⟩
          case measure => have := HLJ.out; simp [intOf]; omega
        · obtain rfl : j = n := by have := hj.out; omega
          have HJ2 := Hid.mk (HNX.out _ _ _ _ HJ.out)
          go_wp2
          go_roundw
          case rel => exact ⟨k + 1, by go_num, Hid.mk HLT.out, HJ2⟩
          case measure => have := HLT.out; simp [intOf]; omega
    · obtain rfl : k = R := by have := hk.out; omega
      have hend := HEND.out
      have HR := Hid.mk (HRD.out _ _ _ HK.out)
      by_cases hc : (size : Int) < (n : Int)
      · rw [if_pos (by omega)] at hend
        rw [hend] at HR
        clear hend
        go_wp2_with (go_at_call 24; refine HR.out.mono ?_; rintro e w6 ⟨rfl, rfl⟩)
        go_ret
        exact ⟨by simp, HK.out.1.bel⟩
      · rw [if_neg (by omega)] at hend
        rw [hend] at HR
        clear hend
        go_wp2_with (go_at_call 24; refine HR.out.mono ?_; rintro e w6 ⟨rfl, rfl⟩)
        go_ret
        exact ⟨by simp, HK.out.1.bel⟩
end Go.Proofs.Ytmbhjheoomlggaa
