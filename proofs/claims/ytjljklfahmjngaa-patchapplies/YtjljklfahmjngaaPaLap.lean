/-
  Changes as values; have two a place in common: Lap, apart, and the reference's.
-/
import Derived.Test.YtjljklfahmjngaaAll
import Derived.BigQuiet
namespace Go.Proofs.Ytjljklfahmjngaa
open Go Go.Proofs Go.RowKit Go.Shelf
attribute [local go_sem] Oper.semAt_some
/-- A change as a value. -/
def paV (i a : Int) (v : Value) : Value := .agg #[.int .i64 i, .int .i64 a, v]
/-- Have n bytes from a on, and m from b on, a place in common? -/
def lapB (a : Int) (n : Nat) (b : Int) (m : Nat) : Bool := decide (0 < n ∧ 0 < m ∧ a < b + m ∧ b < a + n)
theorem lapB_comm (a : Int) (n : Nat) (b : Int) (m : Nat) : lapB b m a n = lapB a n b m := by
  unfold lapB
  rw [decide_eq_decide]
  omega
theorem u64_sub (a b : Int) (ha : I64 a) (hb : I64 b) (h : a ≤ b) : IntKind.u64.wrap (IntKind.u64.wrap b - IntKind.u64.wrap a) = b - a := by
  unfold I64 at ha hb
  rw [IntKind.wrap_u64, IntKind.wrap_u64, IntKind.wrap_u64]
  omega
theorem u64_nat (n : Nat) (h : n ≤ 9223372036854775807) : IntKind.u64.wrap (n : Int) = n := by
  rw [IntKind.wrap_u64]
  omega
theorem two_below (w : World) (o1 o2 : Obj) (k : Nat) : Below w.heap.size w (((w.alloc o1).alloc o2).drewN k) :=
  have h := ((Below.refl w.heap.size w).alloc (Nat.le_refl _) o1).alloc (by simp) o2
  ⟨h.os, h.tape, h.output, h.size, h.block⟩
theorem apart_any (w : World) (a b : Int) (ha : I64 a) (hb : I64 b) (h : a ≤ b) : Calls Try.prog 28 #[.int .i64 a, .int .i64 b] w fun e w' => e = .returned (.int .u64 (b - a)) ∧ w' = w := by
  have e := u64_sub a b ha hb h
  generalize b - a = d at *
  go_enter Try.func28, Try.ntmps28
  go_wp2
  go_ret
  exact ⟨rfl, rfl⟩
set_option maxRecDepth 100000 in
theorem lap_any (w : World) (i j a b : Int) (ao bo : Option Addr) (n m c d : Nat) (ha : I64 a) (hb : I64 b) (hn : n ≤ 9223372036854775807) (hm : m ≤ 9223372036854775807) :
    Calls Try.prog 15 #[paV i a (.slice ao n c), paV j b (.slice bo m d)] w fun e w' => e = .returned (.bool (lapB a n b m)) ∧ Below w.heap.size w w' := by
  unfold paV
  by_cases h : b < a
  · have HA := Hid.mk (fun W => apart_any W b a hb ha (by omega))
    have un := u64_nat m hm
    by_cases h0 : 0 < n
    · have HL : Hid (lapB a n b m = decide (a - b < (m : Int))) := Hid.mk (by unfold lapB; rw [decide_eq_decide]; omega)
      clear hn hm
      have hd : decide (0 < n) = true := decide_eq_true h0
      generalize a - b = x at *
      go_enter Try.func15, Try.ntmps15
      go_wp2
      go_quiet (first | (go_at_call 28; exact Calls.quiet_of_same (HA.out _)))
      go_wp2
      go_ret
      rw [HL.out]
      exact ⟨rfl, two_below w _ _ _⟩
    · have HL : Hid (lapB a n b m = false) := Hid.mk (by unfold lapB; rw [decide_eq_false_iff_not]; omega)
      clear hn hm
      have hd : decide (0 < n) = false := decide_eq_false h0
      go_enter Try.func15, Try.ntmps15
      go_wp2
      go_quiet (fail)
      go_wp2
      go_ret
      rw [HL.out]
      exact ⟨rfl, two_below w _ _ _⟩
  · have HA := Hid.mk (fun W => apart_any W a b ha hb (by omega))
    have un := u64_nat n hn
    by_cases h0 : 0 < m
    · have HL : Hid (lapB a n b m = decide (b - a < (n : Int))) := Hid.mk (by unfold lapB; rw [decide_eq_decide]; omega)
      clear hn hm
      have hd : decide (0 < m) = true := decide_eq_true h0
      generalize b - a = x at *
      go_enter Try.func15, Try.ntmps15
      go_wp2
      go_quiet (first | (go_at_call 28; exact Calls.quiet_of_same (HA.out _)))
      go_wp2
      go_ret
      rw [HL.out]
      exact ⟨rfl, two_below w _ _ _⟩
    · have HL : Hid (lapB a n b m = false) := Hid.mk (by unfold lapB; rw [decide_eq_false_iff_not]; omega)
      clear hn hm
      have hd : decide (0 < m) = false := decide_eq_false h0
      go_enter Try.func15, Try.ntmps15
      go_wp2
      go_quiet (fail)
      go_wp2
      go_ret
      rw [HL.out]
      exact ⟨rfl, two_below w _ _ _⟩
set_option maxRecDepth 100000 in
theorem far_any (w : World) (i j a b : Int) (ao bo : Option Addr) (n m c d : Nat) (ha : I64 a) (hb : I64 b) (hn : n ≤ 9223372036854775807) (hm : m ≤ 9223372036854775807) :
    Calls Try.prog 29 #[paV i a (.slice ao n c), paV j b (.slice bo m d)] w fun e w' => e = .returned (.bool (lapB a n b m)) ∧ Below w.heap.size w w' := by
  unfold paV
  by_cases h0 : n = 0
  · subst h0
    have HL : Hid (lapB a 0 b m = false) := Hid.mk (by unfold lapB; rw [decide_eq_false_iff_not]; omega)
    clear hn hm
    go_enter Try.func29, Try.ntmps29
    go_wp2
    go_ret
    rw [HL.out]
    exact ⟨rfl, two_below w _ _ 0⟩
  by_cases h1 : m = 0
  · subst h1
    have HL : Hid (lapB a n b 0 = false) := Hid.mk (by unfold lapB; rw [decide_eq_false_iff_not]; omega)
    have h0' : ¬ (n : Int) = 0 := by omega
    clear hn hm
    go_enter Try.func29, Try.ntmps29
    go_wp2
    go_ret
    rw [HL.out]
    exact ⟨rfl, two_below w _ _ 0⟩
  have h0' : ¬ (n : Int) = 0 := by omega
  have h1' : ¬ (m : Int) = 0 := by omega
  have z0 : ((n : Int) == 0) = false := by simpa using h0
  have z1 : ((m : Int) == 0) = false := by simpa using h1
  have un := u64_nat n hn
  have um := u64_nat m hm
  by_cases h : a ≤ b
  · have e := u64_sub a b ha hb h
    have HL : Hid (lapB a n b m = decide (b - a < (n : Int))) := Hid.mk (by unfold lapB; rw [decide_eq_decide]; omega)
    clear hn hm
    generalize b - a = x at *
    go_enter Try.func29, Try.ntmps29
    go_wp2
    go_ret
    rw [HL.out]
    exact ⟨rfl, two_below w _ _ 0⟩
  · have e := u64_sub b a hb ha (by omega)
    have HL : Hid (lapB a n b m = decide (a - b < (m : Int))) := Hid.mk (by unfold lapB; rw [decide_eq_decide]; omega)
    clear hn hm
    generalize a - b = x at *
    go_enter Try.func29, Try.ntmps29
    go_wp2
    go_ret
    rw [HL.out]
    exact ⟨rfl, two_below w _ _ 0⟩
/-- Is one of them at a great place, or are they far from each other? -/
def farB (a b : Int) : Bool := decide (IntKind.i64.wrap (a - b) > 1099511627776 ∨ IntKind.i64.wrap (a - b) < -1099511627776 ∨ a > 1152921504606846976 ∨ a < -1152921504606846976 ∨ b > 1152921504606846976 ∨ b < -1152921504606846976)
end Go.Proofs.Ytjljklfahmjngaa
