/-
  Have two changes a place in common: the reference.
-/
import Derived.Test.YtjljklfahmjngaaPaLap
namespace Go.Proofs.Ytjljklfahmjngaa
open Go Go.Proofs Go.RowKit Go.Shelf
attribute [local go_sem] Oper.semAt_some
set_option maxRecDepth 100000 in
set_option maxHeartbeats 4000000 in
theorem rlap_any (w : World) (i j a b : Int) (ao bo : Option Addr) (n m c d : Nat) (ha : I64 a) (hb : I64 b) (hn : n ≤ 1000000000) (hm : m ≤ 1000000000) :
    Calls Try.prog 16 #[paV i a (.slice ao n c), paV j b (.slice bo m d)] w fun e w' => e = .returned (.bool (lapB a n b m)) ∧ Below w.heap.size w w' := by
  have HF := Hid.mk (fun W => far_any W i j a b ao bo n m c d ha hb (by omega) (by omega))
  unfold paV at HF ⊢
  have HN : Hid (n ≤ 1000000000 ∧ m ≤ 1000000000 ∧ I64 a ∧ I64 b) := Hid.mk ⟨hn, hm, ha, hb⟩
  clear hn hm ha hb
  obtain ⟨W0, hW0⟩ : ∃ W0, W0 = (w.alloc (.cells #[.int .i64 i, .int .i64 a, .slice ao n c] 31)).alloc (.cells #[.int .i64 j, .int .i64 b, .slice bo m d] 31) := ⟨_, rfl⟩
  have HB : Hid (Below w.heap.size w W0) := Hid.mk (by rw [hW0]; exact two_below w _ _ 0)
  have HW := Hid.mk hW0
  obtain ⟨D, hD⟩ : ∃ D, IntKind.i64.wrap (a - b) = D := ⟨_, rfl⟩
  go_enter Try.func16, Try.ntmps16
  go_wp2
  rw [← hW0]
  have c0 : W0.cell? ⟨w.heap.size, 0, none⟩ = some (.int .i64 i) := by rw [hW0]; simp
  have c1 : W0.cell? ⟨w.heap.size, 1, none⟩ = some (.int .i64 a) := by rw [hW0]; simp
  have c2 : W0.cell? ⟨w.heap.size, 2, none⟩ = some (.slice ao n c) := by rw [hW0]; simp
  have c3 : W0.cell? ⟨w.heap.size + 1, 0, none⟩ = some (.int .i64 j) := by rw [hW0]; simp
  have c4 : W0.cell? ⟨w.heap.size + 1, 1, none⟩ = some (.int .i64 b) := by rw [hW0]; simp
  have c5 : W0.cell? ⟨w.heap.size + 1, 2, none⟩ = some (.slice bo m d) := by rw [hW0]; simp
  clear hW0
  go_loop [5, 6] (fun iv _ => ∃ k : Nat, iv = .int .i64 k ∧ Hid (k ≤ n ∧ ∀ t : Nat, t < k → ¬ (0 ≤ a - b + t ∧ a - b + t < m))) (fun iv _ => n - (Go.RowKit.intOf iv).toNat)
  case atStart => exact ⟨0, rfl, Hid.mk ⟨Nat.zero_le _, fun t ht => by omega⟩⟩
  case round =>
    obtain ⟨k, rfl, HK⟩ := hrel
    by_cases hlt : k < n
    · have hlt' : (k : Int) < (n : Int) := by omega
      by_cases f0 : 1099511627776 < D
      · clear HN HK
        go_wp2_with (go_at_call 29; refine (HF.out _).mono ?_; rintro e w1 ⟨rfl, hb1⟩; have HB1 := Hid.mk hb1; clear hb1)
        go_ret
        exact ⟨rfl, HB.out.trans (HB1.out.mono HB.out.size)⟩
      by_cases f1 : D < -1099511627776
      · clear HN HK
        go_wp2_with (go_at_call 29; refine (HF.out _).mono ?_; rintro e w1 ⟨rfl, hb1⟩; have HB1 := Hid.mk hb1; clear hb1)
        go_ret
        exact ⟨rfl, HB.out.trans (HB1.out.mono HB.out.size)⟩
      by_cases f2 : 1152921504606846976 < a
      · clear HN HK
        go_wp2_with (go_at_call 29; refine (HF.out _).mono ?_; rintro e w1 ⟨rfl, hb1⟩; have HB1 := Hid.mk hb1; clear hb1)
        go_ret
        exact ⟨rfl, HB.out.trans (HB1.out.mono HB.out.size)⟩
      by_cases f3 : a < -1152921504606846976
      · clear HN HK
        go_wp2_with (go_at_call 29; refine (HF.out _).mono ?_; rintro e w1 ⟨rfl, hb1⟩; have HB1 := Hid.mk hb1; clear hb1)
        go_ret
        exact ⟨rfl, HB.out.trans (HB1.out.mono HB.out.size)⟩
      by_cases f4 : 1152921504606846976 < b
      · clear HN HK
        go_wp2_with (go_at_call 29; refine (HF.out _).mono ?_; rintro e w1 ⟨rfl, hb1⟩; have HB1 := Hid.mk hb1; clear hb1)
        go_ret
        exact ⟨rfl, HB.out.trans (HB1.out.mono HB.out.size)⟩
      by_cases f5 : b < -1152921504606846976
      · clear HN HK
        go_wp2_with (go_at_call 29; refine (HF.out _).mono ?_; rintro e w1 ⟨rfl, hb1⟩; have HB1 := Hid.mk hb1; clear hb1)
        go_ret
        exact ⟨rfl, HB.out.trans (HB1.out.mono HB.out.size)⟩
      have hDab : D = a - b := by have := HN.out.2.2; unfold I64 at this; rw [← hD, IntKind.wrap_i64]; omega
      have u1 : IntKind.i64.wrap ((k : Int) + 1) = ((k + 1 : Nat) : Int) := by have := HN.out; rw [IntKind.wrap_i64]; omega
      obtain ⟨S, hS⟩ : ∃ S : Int, S = D + k := ⟨_, rfl⟩
      have u2 : IntKind.i64.wrap (D + (k : Int)) = S := by have := HN.out; rw [IntKind.wrap_i64]; omega
      by_cases g0 : 0 ≤ S
      · by_cases g1 : S < (m : Int)
        · have HL : Hid (lapB a n b m = true) := Hid.mk (by unfold lapB; rw [decide_eq_true_iff]; omega)
          clear HN HK HF hS hDab
          go_wp2
          go_ret
          rw [HL.out]
          exact ⟨rfl, HB.out⟩
        · have HK2 : Hid (k + 1 ≤ n ∧ ∀ t : Nat, t < k + 1 → ¬ (0 ≤ a - b + t ∧ a - b + t < m)) := Hid.mk ⟨hlt, fun t ht => by
            by_cases e : t = k
            · subst e; omega
            · exact HK.out.2 t (by omega)⟩
          have HLT := Hid.mk hlt
          clear HN HK HF hS hDab
          go_wp2
          go_round
          case rel => exact ⟨k + 1, rfl, HK2⟩
          case measure => (have := HLT.out; simp [Go.RowKit.intOf]; omega)
      · have HK2 : Hid (k + 1 ≤ n ∧ ∀ t : Nat, t < k + 1 → ¬ (0 ≤ a - b + t ∧ a - b + t < m)) := Hid.mk ⟨hlt, fun t ht => by
          by_cases e : t = k
          · subst e; omega
          · exact HK.out.2 t (by omega)⟩
        have HLT := Hid.mk hlt
        clear HN HK HF hS hDab
        go_wp2
        go_round
        case rel => exact ⟨k + 1, rfl, HK2⟩
        case measure => (have := HLT.out; simp [Go.RowKit.intOf]; omega)
    · obtain rfl : k = n := by have := HK.out.1; omega
      have HL : Hid (lapB a k b m = false) := Hid.mk (by
        unfold lapB
        rw [decide_eq_false_iff_not]
        rintro ⟨h1, h2, h3, h4⟩
        by_cases h5 : b ≤ a
        · exact HK.out.2 0 h1 (by omega)
        · exact HK.out.2 (b - a).toNat (by omega) (by omega))
      clear HN HK HF
      go_wp2
      go_ret
      rw [HL.out]
      exact ⟨rfl, HB.out⟩
end Go.Proofs.Ytjljklfahmjngaa
