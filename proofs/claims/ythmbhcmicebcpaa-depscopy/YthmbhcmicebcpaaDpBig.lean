/-
  Rows of calls; the law's Big.
-/
import Derived.Test.YthmbhcmicebcpaaDpBo
namespace Go.Proofs.Ythmbhcmicebcpaa
open Go Go.Proofs Go.RowKit Go.Shelf
attribute [local go_sem] Oper.semAt_some
/-- A call as it was handed over. -/
structure ActV where
  way : Int
  buf : Int
  ao : Option Addr
  m : Nat
  cc : Nat
  xs : List Int
/-- A row of calls that came in. -/
def ActsAt (W : World) (ao : Option Addr) (n : Nat) (V : Nat → ActV) : Prop :=
  0 < n → ∃ ab off, ao = some ⟨ab, off, none⟩ ∧ ab < W.heap.size ∧ ∀ j, j < n → (W.cell? ⟨ab, off + j * 3, none⟩ = some (.int .i64 (V j).way) ∧ W.cell? ⟨ab, off + j * 3 + 1, none⟩ = some (.int .i64 (V j).buf) ∧ W.cell? ⟨ab, off + j * 3 + 2, none⟩ = some (.slice (V j).ao (V j).m (V j).cc)) ∧ LAt W (V j).ao (V j).m (V j).xs ∧ (Lit.int .i64 (V j).buf).wf = true ∧ ((V j).ao = none → (V j).m = 0 ∧ (V j).cc = 0) ∧ (V j).m ≤ 9223372036854775807
theorem acts_at {W W' : World} {ao : Option Addr} {n : Nat} {V : Nat → ActV} (h : ActsAt W ao n V) (hB : Below W.heap.size W W') {j : Nat} (hj : j < n) : ∃ ab off, ao = some ⟨ab, off, none⟩ ∧ ab < W.heap.size ∧ (W'.cell? ⟨ab, off + j * 3, none⟩ = some (.int .i64 (V j).way) ∧ W'.cell? ⟨ab, off + j * 3 + 1, none⟩ = some (.int .i64 (V j).buf) ∧ W'.cell? ⟨ab, off + j * 3 + 2, none⟩ = some (.slice (V j).ao (V j).m (V j).cc)) ∧ LAt W' (V j).ao (V j).m (V j).xs ∧ (Lit.int .i64 (V j).buf).wf = true ∧ ((V j).ao = none → (V j).m = 0 ∧ (V j).cc = 0) ∧ (V j).m ≤ 9223372036854775807 := by
  obtain ⟨ab, off, e, hl, hc⟩ := h (by omega)
  obtain ⟨⟨x0, x1, x2⟩, x3, x4, x5, x6⟩ := hc j hj
  have hb := hB.block ab hl
  exact ⟨ab, off, e, hl, ⟨(World.cell?_of_block (w := W) hb).trans x0, (World.cell?_of_block (w := W) hb).trans x1, (World.cell?_of_block (w := W) hb).trans x2⟩, x3.next hB, x4, x5, x6⟩
def BigTo (n : Nat) (V : Nat → ActV) (e : Ending) : Prop := ∃ b : Bool, e = .returned (.bool b) ∧ (b = false → n ≤ 150 ∧ ∀ j, j < n → (V j).m ≤ 1000)
set_option maxRecDepth 100000 in
set_option maxHeartbeats 4000000 in
theorem big_any (w : World) (ao : Option Addr) (n cc : Nat) (V : Nat → ActV) (hV : ActsAt w ao n V) (hn : n ≤ 9223372036854775807) : Calls Try.prog 10 #[.slice ao n cc] w fun e w' => BigTo n V e ∧ w' = w := by
  have HV : Hid (∀ j, j < n → ∃ ab off, ao = some ⟨ab, off, none⟩ ∧ w.cell? ⟨ab, off + j * 3 + 2, none⟩ = some (.slice (V j).ao (V j).m (V j).cc)) := Hid.mk (fun j hj => by
    obtain ⟨ab, off, e, _, hc, _⟩ := acts_at hV (Below.refl _ _) hj
    exact ⟨ab, off, e, hc.2.2⟩)
  have HN := Hid.mk hn
  clear hV hn
  go_enter Try.func10, Try.ntmps10
  go_wp2
  go_loopw [3, 4] (fun sv kv wr => ∃ k s : Nat, kv = .int .i64 k ∧ sv = .int .i64 s ∧ Hid (wr = w ∧ k ≤ n ∧ k ≤ 151 ∧ s ≤ k * 1000 ∧ ∀ j, j < k → (V j).m ≤ 1000)) (fun _ kv _ => n - (Go.RowKit.intOf kv).toNat)
  case atStart => exact ⟨0, 0, rfl, rfl, Hid.mk ⟨rfl, Nat.zero_le _, by omega, by omega, fun j hj => by omega⟩⟩
  case round =>
    obtain ⟨k, s, rfl, rfl, HK⟩ := hrel
    obtain ⟨ew, _⟩ := HK.out
    subst ew
    have HK2 := Hid.mk HK.out.2
    clear HK
    by_cases hkl : (k : Int) < (n : Int)
    · have hd : decide ((k : Int) < (n : Int)) = true := decide_eq_true hkl
      by_cases hk1 : (k : Int) ≤ 150
      · have v1 : IntKind.i64.wrap ((k : Int) + 1) = ((k + 1 : Nat) : Int) := by rw [IntKind.wrap_i64]; omega
        have HKL : Hid (k < n ∧ k ≤ 150) := Hid.mk (by omega)
        obtain ⟨ab, off, rfl, q1⟩ := HV.out k HKL.out.1
        generalize hmm : (V k).m = mk at q1
        generalize (V k).ao = ak at q1
        generalize (V k).cc = ck at q1
        have HMM := Hid.mk hmm
        clear hmm
        have k0 : (0 : Int) ≤ ((k : Nat) : Int) := by omega
        have e9 : (⟨ab, off, none⟩ : Addr).add (k * 3) = ⟨ab, off + k * 3, none⟩ := by rw [add_at]
        by_cases hb : (1000 : Int) < (mk : Int)
        · go_wp2
          go_ret
          exact ⟨⟨true, rfl, fun e => by cases e⟩, rfl⟩
        · have v2 : IntKind.i64.wrap ((s : Int) + (mk : Int)) = ((s + mk : Nat) : Int) := by have := HK2.out; rw [IntKind.wrap_i64]; omega
          have HB : Hid (mk ≤ 1000) := Hid.mk (by omega)
          go_wp2
          go_roundw
          case rel => exact ⟨k + 1, s + mk, rfl, rfl, Hid.mk ⟨trivial, by have := HKL.out; omega, by have := HKL.out; omega, by have := HB.out; have := HK2.out; omega, fun j hj => by
            by_cases e : j = k
            · subst e; rw [HMM.out]; exact HB.out
            · exact HK2.out.2.2.2 j (by omega)⟩⟩
          case measure => (have := HKL.out; simp [Go.RowKit.intOf]; omega)
      · have hn1 : (150 : Int) < (n : Int) := by omega
        clear HV
        go_wp2
        go_ret
        exact ⟨⟨true, rfl, fun e => by cases e⟩, rfl⟩
    · have HE : Hid (n ≤ k) := Hid.mk (by omega)
      by_cases hn1 : (150 : Int) < (n : Int)
      · clear HV
        go_wp2
        go_ret
        exact ⟨⟨true, rfl, fun e => by cases e⟩, rfl⟩
      · have HE2 : Hid (n ≤ 150) := Hid.mk (by omega)
        clear HV
        go_wp2
        go_ret
        exact ⟨⟨_, rfl, fun _ => ⟨HE2.out, fun j hj => HK2.out.2.2.2 j (by have := HE.out; omega)⟩⟩, rfl⟩
end Go.Proofs.Ythmbhcmicebcpaa
