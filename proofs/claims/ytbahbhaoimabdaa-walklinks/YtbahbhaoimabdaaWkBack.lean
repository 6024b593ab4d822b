/-
  slices.Backward over nodes.
-/
import Derived.Test.YtbahbhaoimabdaaWkNode
import Derived.RangeFuncNested
import Derived.RangeFuncBound
import Derived.RangeFuncCalls
import Derived.RangeFuncLeaves
import Derived.RangeFuncKeeps
import Derived.Shelf.Abstract
import Derived.Shelf.RegionOpen
import Derived.OwnWalkIn
import Derived.TacticsInMore
import Derived.LoopNIn
import Derived.LoopIn
import Derived.Stop.RegionWithIn
namespace Go.Proofs.Ytbahbhaoimabdaa
open Go Go.Proofs Go.RowKit Go.Shelf

theorem range'_snoc (s k : Nat) : List.range' s k ++ [s + k] = List.range' s (k + 1) := by
  rw [List.range'_1_concat]
/-- What Backward yields at its q-th round. -/
def backV (m : Nat) (N : Nat → NoV) (q : Nat) : Array Value := #[.int .i64 ((m - 1 - q : Nat) : Int), (N (m - 1 - q)).val]
set_option maxRecDepth 100000 in
set_option maxHeartbeats 4000000 in
theorem back_stops (n : Nat) (hn : 1 ≤ n) (B : Nat) (ao : Option Addr) (m cc : Nat) (N : Nat → NoV) (hm : m ≤ 9223372036854775807) (v w : World) (hv : Below v.heap.size v w)
    (hB : w.heap[B]? = some (.cells #[.slice ao m cc] 22 (0, 0))) (hN : NoAt v ao m N) :
    SeqStopsK Fence.wide n Try.prog 60 #[.pointer (some ⟨B, 0, none⟩)] (backV m N) (fun A C => Below v.heap.size A C ∧ C.heap[B]? = A.heap[B]?) (fun ys => ys = List.range' 0 m) (fun pre => ∃ k, k < m ∧ pre = List.range' 0 (k + 1)) m w := fun lp J Jx W hW hJ hJx hY h0 => by
  have HY := Hid.mk hY
  have hVW : Below v.heap.size v W := hv.trans (hW.mono hv.size)
  have HB0 := Hid.mk hVW
  have b0 := (hW.block B (lt_of_block hB)).trans hB
  have e0 := blk_cell b0 0
  simp at e0
  have HN := Hid.mk hN
  have HM := Hid.mk hm
  have H0 := Hid.mk h0
  have HX0 := Hid.mk b0
  have hw0 : IntKind.i64.wrap ((m : Int) - 1) = (m : Int) - 1 := by rw [IntKind.wrap_i64]; omega
  clear hVW hv hJ hY hJx hW hB hN h0 b0 hm
  refine callsIn_of_wp Try.func60 rfl trivial ?_ rfl
  simp only [Try.ntmps60, List.size_toArray, List.length_cons, List.length_nil, Nat.reduceAdd, Nat.reduceSub, Array.replicate_succ, Array.replicate_zero, List.push_toArray, List.append_toArray, List.nil_append, List.cons_append]
  have HYG : Hid (∀ (k : Nat) (W1 : World), k < m → J (List.range' 0 k) W1 → Below v.heap.size v W1 → W1.heap[B]? = some (.cells #[.slice ao m cc] 22 (0, 0)) → YieldAt Fence.wide (n - 1) Try.prog lp (backV m N k) W1 fun e W' => ∃ c : Bool, e = .returned (.bool c) ∧ Hid ((c = true ∧ J (List.range' 0 (k + 1)) W' ∧ Below v.heap.size v W' ∧ W'.heap[B]? = some (.cells #[.slice ao m cc] 22 (0, 0))) ∨ (c = false ∧ Jx (List.range' 0 (k + 1)) W'))) := Hid.mk (fun k W1 hk hJ1 hB1 hX1 => by
    have h1 := HY.out (List.range' 0 k) k W1 hJ1 (by simp; omega)
    have e1 := range'_snoc 0 k
    rw [Nat.zero_add] at e1
    simp only [e1] at h1
    exact h1.mono (fun e W' h => h.elim (fun h => ⟨true, h.1, .inl ⟨rfl, h.2.1, hB1.trans h.2.2.1, h.2.2.2.trans hX1⟩⟩) (fun h => ⟨false, h.1, .inr ⟨rfl, h.2⟩⟩)))
  clear HY
  gi_wp2
  clear e0 hw0
  gi_loopw [3] (fun iv wr => ∃ k : Nat, k ≤ m ∧ iv = .int .i64 ((m : Int) - 1 - (k : Int)) ∧ Hid (Below v.heap.size v wr ∧ J (List.range' 0 k) wr ∧ wr.heap[B]? = some (.cells #[.slice ao m cc] 22 (0, 0)))) (fun iv _ => (Go.RowKit.intOf iv + 1).toNat)
  case atStart => exact ⟨0, by omega, by simp, Hid.mk ⟨HB0.out, H0.out, HX0.out⟩⟩
  case round =>
    obtain ⟨k, hk, rfl, HK⟩ := hrel
    by_cases hlt : k < m
    · obtain ⟨j, hj⟩ : ∃ j : Nat, j + k + 1 = m := ⟨m - 1 - k, by omega⟩
      have ej : (m : Int) - 1 - (k : Int) = (j : Int) := by omega
      rw [ej]
      have h0j : (0 : Int) ≤ (j : Int) := by omega
      have hjm : (j : Int) < (m : Int) := by omega
      have hwj : IntKind.i64.wrap ((j : Int) - 1) = (j : Int) - 1 := by have := HM.out; rw [IntKind.wrap_i64]; omega
      have hY := HYG.out k _ hlt HK.out.2.1 HK.out.1 HK.out.2.2
      have e1 : backV m N k = #[.int .i64 j, (N j).val] := by unfold backV; rw [show m - 1 - k = j by omega]
      rw [e1] at hY
      obtain ⟨fn, tmps, assign, body, hy, hR⟩ := hY
      have HR := Hid.mk hR
      clear hR e1
      unfold NoV.val at hy
      have e0 := blk_cell HK.out.2.2 0
      simp at e0
      obtain ⟨f1, o1, rfl, he1, ⟨z0, z1, z2, z3, z4, z5⟩, -, -, -⟩ := no_at (HN.out.blw HK.out.1) (show j < m by omega)
      have HJ := Hid.mk hj
      have HKM := Hid.mk hlt
      clear hlt hk hj he1 ej
      gi_wp2_with fail
      refine HR.out.mono ?_
      rintro e W4 ⟨cb, rfl, HC⟩
      cases cb with
      | false =>
        have hx4 : Jx (List.range' 0 (k + 1)) W4 := by simpa [Hid] using HC
        have HX4 := Hid.mk hx4
        clear HC hx4 hy HR
        gi_wp2
        refine bodyPost_ret (results_none rfl _ _ _) rfl ?_
        exact ⟨⟨_, rfl⟩, .inr ⟨_, ⟨k, HKM.out, rfl⟩, HX4.out⟩⟩
      | true =>
        have hc4 : J (List.range' 0 (k + 1)) W4 ∧ Below v.heap.size v W4 ∧ W4.heap[B]? = some (.cells #[.slice (some ⟨f1, o1, none⟩) m cc] 22 (0, 0)) := by simpa [Hid] using HC
        have HC4 := Hid.mk hc4
        clear HC hc4 hy HR e0 z0 z1 z2 z3 z4 z5
        gi_wp2
        go_roundw
        case rel => exact ⟨k + 1, HKM.out, congrArg (Value.int .i64) (by have := HJ.out; omega), Hid.mk ⟨HC4.out.2.1, HC4.out.1, HC4.out.2.2⟩⟩
        case measure => simp [Go.RowKit.intOf]
    · obtain rfl : k = m := by omega
      have ej : (k : Int) - 1 - (k : Int) = -1 := by omega
      rw [ej]
      gi_wp2
      refine bodyPost_end (results_none rfl _ _ _) rfl ?_
      exact ⟨⟨_, rfl⟩, .inl ⟨_, rfl, HK.out.2.1⟩⟩
set_option maxRecDepth 100000 in
set_option maxHeartbeats 4000000 in
/-- The same in the form that wpIn_range_kx asks for: what the rounds keep (J) tells of the row and of the box that holds it. -/
theorem back_in (n : Nat) (_hn : 1 ≤ n) (lp B : Nat) (ao : Option Addr) (m cc : Nat) (N : Nat → NoV) (hm : m ≤ 9223372036854775807) (J : Nat → World → Prop) (Jx : World → Prop) (W : World)
    (hJI : ∀ k A, J k A → A.heap[B]? = some (.cells #[.slice ao m cc] 22 (0, 0)) ∧ NoAt A ao m N)
    (hY : ∀ k A, J k A → k < m → YieldAt Fence.wide (n - 1) Try.prog lp (backV m N k) A fun e W' => (e = .returned (.bool true) ∧ J (k + 1) W') ∨ (e = .returned (.bool false) ∧ Jx W')) (h0 : J 0 W) :
    CallsIn Fence.wide n Try.prog 60 #[.func (.yield lp) #[] #[], .pointer (some ⟨B, 0, none⟩)] W fun e W' => (∃ v, e = .returned v) ∧ (J m W' ∨ Jx W') := by
  have HM := Hid.mk hm
  have H0 := Hid.mk h0
  have HJ := Hid.mk hJI
  have e0 := blk_cell (hJI 0 W h0).1 0
  simp at e0
  have hw0 : IntKind.i64.wrap ((m : Int) - 1) = (m : Int) - 1 := by rw [IntKind.wrap_i64]; omega
  have HYG : Hid (∀ (k : Nat) (W1 : World), k < m → J k W1 → YieldAt Fence.wide (n - 1) Try.prog lp (backV m N k) W1 fun e W' => ∃ c : Bool, e = .returned (.bool c) ∧ Hid ((c = true ∧ J (k + 1) W') ∨ (c = false ∧ Jx W'))) := Hid.mk (fun k W1 hk hJ1 =>
    (hY k W1 hJ1 hk).mono (fun e W' h => h.elim (fun h => ⟨true, h.1, .inl ⟨rfl, h.2⟩⟩) (fun h => ⟨false, h.1, .inr ⟨rfl, h.2⟩⟩)))
  clear hJI hY h0 hm
  refine callsIn_of_wp Try.func60 rfl trivial ?_ rfl
  simp only [Try.ntmps60, List.size_toArray, List.length_cons, List.length_nil, Nat.reduceAdd, Nat.reduceSub, Array.replicate_succ, Array.replicate_zero, List.push_toArray, List.append_toArray, List.nil_append, List.cons_append]
  gi_wp2
  clear e0 hw0
  gi_loopw [3] (fun iv wr => ∃ k : Nat, k ≤ m ∧ iv = .int .i64 ((m : Int) - 1 - (k : Int)) ∧ Hid (J k wr)) (fun iv _ => (Go.RowKit.intOf iv + 1).toNat)
  case atStart => exact ⟨0, by omega, by simp, Hid.mk H0.out⟩
  case round =>
    obtain ⟨k, hk, rfl, HK⟩ := hrel
    by_cases hlt : k < m
    · obtain ⟨j, hj⟩ : ∃ j : Nat, j + k + 1 = m := ⟨m - 1 - k, by omega⟩
      have ej : (m : Int) - 1 - (k : Int) = (j : Int) := by omega
      rw [ej]
      have h0j : (0 : Int) ≤ (j : Int) := by omega
      have hjm : (j : Int) < (m : Int) := by omega
      have hwj : IntKind.i64.wrap ((j : Int) - 1) = (j : Int) - 1 := by have := HM.out; rw [IntKind.wrap_i64]; omega
      have hY := HYG.out k _ hlt HK.out
      have e1 : backV m N k = #[.int .i64 j, (N j).val] := by unfold backV; rw [show m - 1 - k = j by omega]
      rw [e1] at hY
      obtain ⟨fn, tmps, assign, body, hy, hR⟩ := hY
      have HR := Hid.mk hR
      clear hR e1
      unfold NoV.val at hy
      have e0 := blk_cell (HJ.out k _ HK.out).1 0
      simp at e0
      obtain ⟨f1, o1, rfl, he1, ⟨z0, z1, z2, z3, z4, z5⟩, -, -, -⟩ := no_at (HJ.out k _ HK.out).2 (show j < m by omega)
      have HJJ := Hid.mk hj
      have HKM := Hid.mk hlt
      clear hlt hk hj he1 ej
      gi_wp2_with fail
      refine HR.out.mono ?_
      rintro e W4 ⟨cb, rfl, HC⟩
      cases cb with
      | false =>
        have hx4 : Jx W4 := by simpa [Hid] using HC
        have HX4 := Hid.mk hx4
        clear HC hx4 hy HR
        gi_wp2
        refine bodyPost_ret (results_none rfl _ _ _) rfl ?_
        exact ⟨⟨_, rfl⟩, .inr HX4.out⟩
      | true =>
        have hc4 : J (k + 1) W4 := by simpa [Hid] using HC
        have HC4 := Hid.mk hc4
        clear HC hc4 hy HR e0 z0 z1 z2 z3 z4 z5
        gi_wp2
        go_roundw
        case rel => exact ⟨k + 1, HKM.out, congrArg (Value.int .i64) (by have := HJJ.out; omega), Hid.mk HC4.out⟩
        case measure => simp [Go.RowKit.intOf]
    · obtain rfl : k = m := by omega
      have ej : (k : Int) - 1 - (k : Int) = -1 := by omega
      rw [ej]
      gi_wp2
      refine bodyPost_end (results_none rfl _ _ _) rfl ?_
      exact ⟨⟨_, rfl⟩, .inl HK.out⟩
end Go.Proofs.Ytbahbhaoimabdaa
