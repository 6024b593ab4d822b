/-
  Those of a row of numbers that are open, one behind the other: open.
-/
import Derived.Test.YthmbhcmicebcpaaDpFree
import Derived.BigRegionIn
import Derived.BigFrameIn
namespace Go.Proofs.Ythmbhcmicebcpaa
open Go Go.Proofs Go.RowKit Go.Shelf
attribute [local go_sem] Oper.semAt_some
def openV (B : Nat) : Value := .func (.func 55) #[] #[ptV (B + 1), ptV B]
set_option maxRecDepth 100000 in
theorem open_any (w : World) (g : Nat) (v : Value) (hv : ∃ ao n c, v = .slice ao n c) : Calls Try.prog 41 #[ptV g, v] w fun e w' => e = .returned (openV w.heap.size) ∧ w' = (w.alloc (.cells #[ptV g] 26)).alloc (.cells #[v] 23) := by
  obtain ⟨ao, n, c, rfl⟩ := hv
  go_enter Try.func41, Try.ntmps41
  go_wp2
  go_ret
  exact ⟨rfl, rfl⟩
/-- How many of the first j are open. -/
def cntP (P : Nat → Option Nat) (j : Nat) : Nat := ((List.range j).filterMap P).length
theorem cnt_none {P : Nat → Option Nat} {j : Nat} (h : P j = none) : cntP P (j + 1) = cntP P j := by
  unfold cntP
  rw [List.range_succ, List.filterMap_append]
  simp [h]
theorem cnt_some {P : Nat → Option Nat} {j b : Nat} (h : P j = some b) : cntP P (j + 1) = cntP P j + 1 := by
  unfold cntP
  rw [List.range_succ, List.filterMap_append]
  simp [h]
theorem cnt_mono (P : Nat → Option Nat) {i j : Nat} (h : i ≤ j) : cntP P i ≤ cntP P j := by
  induction j with
  | zero => obtain rfl : i = 0 := by omega
            exact Nat.le_refl _
  | succ j ih =>
    by_cases e : i = j + 1
    · subst e; exact Nat.le_refl _
    · refine Nat.le_trans (ih (by omega)) ?_
      cases hp : P j with
      | none => rw [cnt_none hp]; exact Nat.le_refl _
      | some b => rw [cnt_some hp]; omega
/-- The k-th open one. -/
theorem open_at {P : Nat → Option Nat} {n j b : Nat} (hj : j < n) (h : P j = some b) : ((List.range n).filterMap P).getD (cntP P j) 0 = b ∧ cntP P j < ((List.range n).filterMap P).length := by
  have e : List.range n = List.range j ++ (j :: (List.range' (j + 1) (n - j - 1))) := by
    have h2 : List.range' 0 (j + (n - j)) = List.range' 0 j ++ List.range' (0 + j) (n - j) := (List.range'_append_1 (s := 0) (m := j) (n := n - j)).symm
    have h3 : List.range' (0 + j) (n - j) = j :: List.range' (j + 1) (n - j - 1) := by
      rw [show n - j = (n - j - 1) + 1 by omega, List.range'_succ]
      simp
    rw [List.range_eq_range', List.range_eq_range', ← h3, ← h2]
    congr 1
    omega
  rw [e, List.filterMap_append, List.filterMap_cons, h]
  unfold cntP
  constructor
  · rw [List.getD_eq_getElem?_getD, List.getElem?_append_right (Nat.le_refl _)]
    simp
  · simp
set_option maxRecDepth 100000 in
set_option maxHeartbeats 4000000 in
theorem open1_in (n : Nat) (hn : 1 ≤ n) (l B g : Nat) (ao : Option Addr) (m cc : Nat) (xs : List Int) (hm : m ≤ 1000000000) (P : Nat → Option Nat) (J : Nat → World → Prop) (Jx : World → Prop) (W : World)
    (hB : W.cell? ⟨B + 1, 0, none⟩ = some (.slice ao m cc))
    (hc : ∀ k A, J k A → A.cell? ⟨B, 0, none⟩ = some (ptV g) ∧ ∃ lm, A.cell? ⟨g, 1, none⟩ = some (.map lm) ∧ ∀ j, j < m → k ≤ cntP P j → ∃ a, ao = some a ∧ A.cell? (a.add j) = some (.int .i64 (xs.getD j 0)) ∧ (Instr.lookup 57 (.map lm) (.int .i64 (xs.getD j 0)) false).run Try.prog A = .ok (optV (P j)) A)
    (hY : ∀ k A, J k A → k < ((List.range m).filterMap P).length → YieldAt Fence.wide (n - 1) Try.prog l #[ptV (((List.range m).filterMap P).getD k 0)] A fun e W' => (e = .returned (.bool true) ∧ J (k + 1) W') ∨ (e = .returned (.bool false) ∧ Jx W')) (h0 : J 0 W) :
    CallsIn Fence.wide n Try.prog 55 #[.func (.yield l) #[] #[], ptV (B + 1), ptV B] W fun e W' => (∃ v, e = .returned v) ∧ (J ((List.range m).filterMap P).length W' ∨ Jx W') := by
  have HC := Hid.mk hc
  have HY := Hid.mk hY
  have HM := Hid.mk hm
  clear hc hY hm
  refine callsIn_of_wp Try.func55 rfl trivial ?_ rfl
  simp only [Try.ntmps55, List.size_toArray, List.length_cons, List.length_nil, Nat.reduceAdd, Nat.reduceSub, Array.replicate_succ, Array.replicate_zero, List.push_toArray, List.append_toArray, List.nil_append, List.cons_append]
  gi_wp2
  gi_loopw [9] (fun v wr => ∃ j : Nat, v = .int .i64 j ∧ Hid (j ≤ m) ∧ Hid (J (cntP P j) wr)) (fun v _ => m - (intOf v).toNat)
  case atStart => exact ⟨0, rfl, Hid.mk (Nat.zero_le _), Hid.mk (by exact h0)⟩
  case round =>
    obtain ⟨j, rfl, hj, hJ⟩ := hrel
    clear hB h0
    by_cases hlt : (j : Int) < (m : Int)
    · have hjm : j < m := by omega
      obtain ⟨b2, lm, b3, hx⟩ := HC.out _ wr hJ.out
      obtain ⟨a, rfl, hxa, hlk⟩ := hx j hjm (Nat.le_refl _)
      have u1 : IntKind.i64.wrap ((j : Int) + 1) = ((j + 1 : Nat) : Int) := by have := HM.out; rw [IntKind.wrap_i64]; omega
      have u2 : (0 : Int) ≤ (j : Int) := by omega
      have HJM := Hid.mk hjm
      generalize xs.getD j 0 = x at hxa hlk
      cases hp : P j with
      | none =>
        rw [hp] at hlk
        simp only [optV] at hlk
        have HJ2 : Hid (J (cntP P (j + 1)) wr) := Hid.mk (by rw [cnt_none hp]; exact hJ.out)
        clear hx HC HY hp hJ
        gi_wp2
        refine ⟨fun _ h => (by cases h), ?_⟩
        gi_wp2
        refine ⟨⟨j + 1, rfl, Hid.mk HJM.out, HJ2⟩, ?_⟩
        have := HJM.out
        simp [intOf]
        omega
      | some b =>
        rw [hp] at hlk
        simp only [optV] at hlk
        obtain ⟨e1, e2⟩ := open_at hjm hp
        have h9 := HY.out _ wr hJ.out e2
        rw [e1] at h9
        obtain ⟨fn, tmps, assign, body, hy, hR⟩ := h9
        have HR : Hid (RoundIn Fence.wide (n - 1) Try.prog l fn tmps assign body wr fun e W' => ∃ b : Bool, e = .returned (.bool b) ∧ Hid ((b = true ∧ J (cntP P (j + 1)) W') ∨ (b = false ∧ Jx W'))) :=
          hR.mono (fun e W' h => h.elim (fun h => ⟨true, h.1, .inl ⟨rfl, by rw [cnt_some hp]; exact h.2⟩⟩) (fun h => ⟨false, h.1, .inr ⟨rfl, h.2⟩⟩))
        clear hR hJ hx HC HY hp e1 e2
        gi_wp2_with (first | (refine HR.out.mono ?_; rintro e W4 ⟨b, rfl, HCC⟩) | (refine ⟨trivial, ?_⟩; refine HR.out.mono ?_; rintro e W4 ⟨b, rfl, HCC⟩))
        · have hb : b = false := by
            rename_i h
            simpa using h
          have hx : Jx W4 := by simpa [Hid, hb] using HCC
          refine bodyPost_ret (results_none rfl _ _ _) rfl ?_
          exact ⟨⟨_, rfl⟩, .inr hx⟩
        · have hb : b = true := by
            rename_i h
            simpa using h
          have hj : J (cntP P (j + 1)) W4 := by simpa [Hid, hb] using HCC
          refine ⟨⟨j + 1, rfl, Hid.mk HJM.out, Hid.mk hj⟩, ?_⟩
          have := HJM.out
          simp [intOf]
          omega
    · obtain rfl : j = m := by have := hj.out; omega
      clear HC HY
      gi_wp2
      go_end0
      exact ⟨⟨_, rfl⟩, .inl hJ.out⟩
end Go.Proofs.Ythmbhcmicebcpaa
