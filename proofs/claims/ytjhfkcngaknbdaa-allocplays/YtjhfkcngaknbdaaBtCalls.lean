/-
  What the small calls do: mask, has, Get, Clone, With, between, and the document's own Get, With, bound.
-/
import Derived.Test.YtjhfkcngaknbdaaTell3
import Derived.BigQuiet
import Derived.Deep.QuietTactic
import Derived.Deep.RegionWith
namespace Go.Proofs.Ytjhfkcngaknbdaa
open Go Go.Proofs Go.RowKit
namespace Bt
set_option maxRecDepth 100000 in
set_option maxHeartbeats 400000 in
theorem mask_any (w : World) (q : Nat) (hq : q < 9223372036854775808) : Calls Try.prog 62 #[.int .i64 q] w fun e w' => e = .returned (.int .u8 (maskN q)) ∧ w' = w := by
  have hm : (2 : Int) ^ (q % 8) % 256 = maskN q := by
    have := maskN_bound q
    have e : (2 : Int) ^ (q % 8) = maskN q := by simp [maskN]
    rw [e]
    omega
  go_enter Try.func62, Try.ntmps62
  go_wp2
  rw [hm]
  go_ret
  exact ⟨rfl, rfl⟩
set_option maxRecDepth 100000 in
theorem has_any (w : World) (ao : Option Addr) (n c : Nat) (i : Int) (hi : I64 i) : Calls Try.prog 61 #[.slice ao n c, .int .i64 i] w fun e w' => e = .returned (.bool (hasI n i)) ∧ w' = w := by
  obtain ⟨hi1, hi2⟩ := hi
  by_cases h0 : 0 ≤ i
  · obtain ⟨q, rfl⟩ : ∃ q : Nat, i = q := ⟨i.toNat, by omega⟩
    rw [hasI_nat]
    go_enter Try.func61, Try.ntmps61
    go_wp2
    go_ret
    refine ⟨?_, rfl⟩
    simp
    omega
  · rw [hasI_neg _ _ (by omega)]
    go_enter Try.func61, Try.ntmps61
    go_wp2
    go_ret
    exact ⟨rfl, rfl⟩
/-! Get -/
set_option maxRecDepth 100000 in
theorem get_yes (w : World) (a : Addr) (n c q : Nat) (x : Int) (hq : q / 8 < n) (hq2 : q < 9223372036854775808) (hx : 0 ≤ x ∧ x ≤ 255) (hc : w.cell? (a.add (q / 8)) = some (.int .u8 x)) :
    Calls Try.prog 58 #[.slice (some a) n c, .int .i64 q] w fun e w' => e = .returned (.bool (bitB x (q % 8))) ∧ ∃ m, w' = w.drewN m := by
  have h1 : Hid (∀ w, Calls Try.prog 61 #[.slice (some a) n c, .int .i64 q] w fun e w' => e = .returned (.bool true) ∧ w' = w) := Hid.mk fun w => by
    have := has_any w (some a) n c q ⟨by omega, by omega⟩
    rw [hasI_nat, decide_eq_true hq] at this
    exact this
  have hq3 : (q : Int) / 8 < n := by omega
  have hs := u8_mask x q hx
  go_enter Try.func58, Try.ntmps58
  go_wp2
  go_quiet (first | (go_at_call 61; exact Calls.quiet_of_same (h1.out _)) | (go_at_call 62; exact Calls.quiet_of_same (mask_any _ q hq2)))
  go_wp2
  go_ret
  exact ⟨rfl, _, rfl⟩
set_option maxRecDepth 100000 in
theorem get_no (w : World) (ao : Option Addr) (n c : Nat) (i : Int) (hi : I64 i) (hno : hasI n i = false) :
    Calls Try.prog 58 #[.slice ao n c, .int .i64 i] w fun e w' => e = .returned (.bool false) ∧ ∃ m, w' = w.drewN m := by
  have h1 : Hid (∀ w, Calls Try.prog 61 #[.slice ao n c, .int .i64 i] w fun e w' => e = .returned (.bool false) ∧ w' = w) := Hid.mk fun w => by
    have := has_any w ao n c i hi
    rw [hno] at this
    exact this
  clear hi hno
  go_enter Try.func58, Try.ntmps58
  go_wp2
  go_quiet (first | (go_at_call 61; exact Calls.quiet_of_same (h1.out _)))
  go_wp2
  go_ret
  exact ⟨rfl, _, rfl⟩
/-! rows of bytes -/
set_option maxRecDepth 100000 in
theorem get_any (w : World) (ao : Option Addr) (n c : Nat) (xs : List Int) (h : BAt w ao n xs) (hx : ∀ x ∈ xs, 0 ≤ x ∧ x ≤ 255) (i : Int) (hi : I64 i) :
    Calls Try.prog 58 #[.slice ao n c, .int .i64 i] w fun e w' => e = .returned (.bool (getI xs i)) ∧ ∃ m, w' = w.drewN m := by
  cases hh : hasI n i with
  | false =>
    rw [getI_no xs i (by rw [h.1]; exact hh)]
    exact get_no w ao n c i hi hh
  | true =>
    have hh' := hh
    simp [hasI] at hh'
    obtain ⟨hi1, hi2⟩ := hi
    obtain ⟨q, rfl⟩ : ∃ q : Nat, i = q := ⟨i.toNat, by omega⟩
    simp only [Int.toNat_natCast] at hh'
    obtain ⟨a, rfl, hc⟩ := h.at (q / 8) hh'.2
    rw [getI_nat]
    exact get_yes w a n c q _ hh'.2 (by omega) (getD_bound xs hx _) hc
set_option maxRecDepth 100000 in
theorem between_any (w : World) (ao : Option Addr) (l c : Nat) (f n : Int) :
    Calls Try.prog 55 #[.slice ao l c, .int .i64 f, .int .i64 n] w fun e w' => e = .returned (.func (.func 60) #[] #[.pointer (some ⟨w.heap.size + 1, 0, none⟩), .pointer (some ⟨w.heap.size + 1 + 1, 0, none⟩), .pointer (some ⟨w.heap.size, 0, none⟩)]) ∧
      w' = ((w.alloc (.cells #[.slice ao l c] 39)).alloc (.cells #[.int .i64 f] 3)).alloc (.cells #[.int .i64 n] 3) := by
  go_enter Try.func55, Try.ntmps55
  go_wp2
  go_ret
  exact ⟨rfl, rfl⟩
set_option maxRecDepth 100000 in
set_option maxHeartbeats 400000 in
theorem clone_any (a : Addr) (n c : Nat) (xs : List Int) (w : World) (hx : xs.length = n) (hbig : n ≤ 140737488355328) (hc : ∀ i, i < n → w.cell? (a.add i) = some (.int .u8 (xs.getD i 0))) :
    Calls Try.prog 35 #[.slice (some a) n c] w fun e w' => ∃ v', e = .returned v' ∧ w'.ownsRow w.heap.size 5 1 v' n (By xs) ∧ v' ≠ .slice none 0 0 ∧ Below w.heap.size w w' := by
  obtain ⟨i0, hi, hz0, hz1, hz2⟩ := info_parts info5
  have q22 : ∀ (w : World) (a : Option Addr) (n c n' c' : Nat), (binOp .eql 39 (.slice a n c) (.slice none n' c')).run Try.prog w = .ok (.bool a.isNone) w := fun w a n c n' c' => Lib.run_eql_slice_nil w _ _ a n c n' c' Try.underlying39
  have A : Hid (∀ i, i < n → w.cell? (a.add i) = some (.int .u8 (xs.getD i 0))) := hc
  clear hc
  go_enter Try.func35, Try.ntmps35
  go_wp2_with (at_builtin; refine wpList_append_own _ rfl _ _ 39 rfl w.heap.size 5 i0 (.int .u8 0) 1 1 Try.underlying39 hi hz0 hz1 hz2 rfl (by decide) _ _ _ rfl (World.ownsRow_made w #[] 0 (Nat.le_refl _) (Nat.zero_le _) rfl) a n c (By xs) rfl ?qc1 ?qc2 ?qc3 ?qc4 ?qc5 ?qc6 ?_)
  case qc1 => simp [By_length]; omega
  case qc2 =>
    intro j u hj
    have hjn : j < n := by
      have := (List.getElem?_eq_some_iff.1 hj).1
      rw [By_length] at this
      omega
    refine Lib.cell?_alloc_some _ ?_
    rw [A.out j hjn]
    rw [By_get xs j (by omega)] at hj
    exact hj
  case qc3 => exact By_one xs
  case qc4 => unfold maxLen; omega
  case qc5 => omega
  case qc6 => simp
  intro v' w1 hown hgrow hnil
  go_wp2
  go_ret
  refine ⟨v', rfl, by simpa using hown, ?_, ?_⟩
  · first | exact hnil | (intro e; exact absurd (hnil.1 e).1 (by simp))
  · exact ((Below.refl _ w).alloc (Nat.le_refl _) _).grown hgrow (by simp) (by intro k hk; simp [Value.ownBlock] at hk; omega)
set_option maxRecDepth 100000 in
theorem clone_nil (w : World) : Calls Try.prog 35 #[.slice none 0 0] w fun e w' => e = .returned (.slice none 0 0) ∧ w' = w := by
  have q22 : ∀ (w : World) (a : Option Addr) (n c n' c' : Nat), (binOp .eql 39 (.slice a n c) (.slice none n' c')).run Try.prog w = .ok (.bool a.isNone) w := fun w a n c n' c' => Lib.run_eql_slice_nil w _ _ a n c n' c' Try.underlying39
  go_enter Try.func35, Try.ntmps35
  go_wp2
  go_ret
  exact ⟨rfl, rfl⟩
set_option maxRecDepth 100000 in
theorem clone_all (w : World) (ao : Option Addr) (n c : Nat) (xs : List Int) (h : BAt w ao n xs) (hnone : ao = none → n = 0 ∧ c = 0) (hbig : n ≤ 140737488355328) :
    Calls Try.prog 35 #[.slice ao n c] w fun e w' => ∃ v', e = .returned v' ∧ w'.ownsRow w.heap.size 5 1 v' n (By xs) ∧ Below w.heap.size w w' := by
  cases ao with
  | none =>
    obtain ⟨rfl, rfl⟩ := hnone rfl
    obtain rfl : xs = [] := List.eq_nil_of_length_eq_zero h.1
    refine (clone_nil w).mono ?_
    rintro e w' ⟨rfl, rfl⟩
    exact ⟨_, rfl, World.ownsRow_nil _ _ 5 1, Below.refl _ _⟩
  | some a =>
    refine (clone_any a n c xs w h.1 hbig (fun i hi => ?_)).mono ?_
    · obtain ⟨a', e, hc⟩ := h.at i hi
      cases e
      exact hc
    · rintro e w' ⟨v', rfl, h1, _, h2⟩
      exact ⟨v', rfl, h1, h2⟩
end Bt
end Go.Proofs.Ytjhfkcngaknbdaa
