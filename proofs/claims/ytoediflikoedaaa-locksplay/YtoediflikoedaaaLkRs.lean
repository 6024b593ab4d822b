/-
  The law's same: of two rows that are one.
-/
import Derived.Test.YtoediflikoedaaaLkRh
import Derived.BigQuiet
namespace Go.Proofs.Ytoediflikoedaaa
open Go Go.Proofs Go.RowKit Go.Shelf
attribute [local go_sem] Oper.semAt_some
set_option maxRecDepth 100000 in
set_option maxHeartbeats 4000000 in
theorem samel_yes {w : World} {a a2 : Option Addr} {n c c2 : Nat} {L : List Lk} (h1 : SlOk w (.slice a n c) L) (h2 : SlOk w (.slice a2 n c2) L) : Calls Try.prog 13 #[.slice a n c, .slice a2 n c2] w fun e w' => e = .returned (.bool true) ∧ Below w.heap.size w w' := by
  obtain ⟨_, _, e1, hlen⟩ := sl_len h1
  cases e1
  have HS : Hid (∀ W, Below w.heap.size w W → SlOk W (.slice a L.length c) L ∧ SlOk W (.slice a2 L.length c2) L) := Hid.mk (fun W hB => ⟨h1.keep (fun k q => hB.block k (h1.lt' q)), h2.keep (fun k q => hB.block k (h2.lt' q))⟩)
  obtain ⟨n, hn⟩ : ∃ n, L.length = n := ⟨_, rfl⟩
  rw [hn] at HS hlen ⊢
  clear h1 h2 hn
  go_enter Try.func13, Try.ntmps13
  go_wp2
  go_loopw [5] (fun kv wr => ∃ k : Nat, kv = .int .i64 k ∧ Hid (Below w.heap.size w wr ∧ k ≤ n)) (fun kv _ => n - (Go.RowKit.intOf kv).toNat)
  case atStart => exact ⟨0, rfl, Hid.mk ⟨Below.refl _ _, Nat.zero_le _⟩⟩
  case round =>
    obtain ⟨k, rfl, HK⟩ := hrel
    by_cases hkl : (k : Int) < (n : Int)
    · have v1 : IntKind.i64.wrap ((k : Int) + 1) = ((k + 1 : Nat) : Int) := by rw [IntKind.wrap_i64]; omega
      have HKL : Hid (k < n) := Hid.mk (by omega)
      obtain ⟨s1, s2⟩ := HS.out wr HK.out.1
      obtain ⟨g1, o1, rfl, _, d1, d2, d3⟩ := sl_at s1 HKL.out
      obtain ⟨g2, o2, rfl, _, f1, f2, f3⟩ := sl_at s2 HKL.out
      have e8 : (⟨g1, o1, none⟩ : Addr).add (k * 3) = ⟨g1, o1 + k * 3, none⟩ := by rw [add_at]
      have e9 : (⟨g2, o2, none⟩ : Addr).add (k * 3) = ⟨g2, o2 + k * 3, none⟩ := by rw [add_at]
      have HBW : Hid (∀ m, Below w.heap.size w (wr.drewN m)) := Hid.mk (fun m => HK.out.1.trans (below_drewN' _ _ _ HK.out.1.size))
      generalize L.getD k Lk.zero = l at *
      clear s1 s2 HK
      go_wp2
      go_quiet (fail)
      go_wp2
      go_roundw
      case rel => exact ⟨k + 1, rfl, Hid.mk ⟨HBW.out _, HKL.out⟩⟩
      case measure => (have := HKL.out; simp [Go.RowKit.intOf]; omega)
    · have HB9 := Hid.mk HK.out.1
      clear HK
      go_wp2
      go_ret
      exact ⟨rfl, HB9.out⟩
end Go.Proofs.Ytoediflikoedaaa
