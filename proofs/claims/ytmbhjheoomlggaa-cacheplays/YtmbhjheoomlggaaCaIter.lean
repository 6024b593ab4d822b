/-
  The places of a list, one behind the other: all.
-/
import Derived.Test.YtmbhjheoomlggaaCaDrop
import Derived.BigRegionIn
import Derived.BigFrameIn
namespace Go.Proofs.Ytmbhjheoomlggaa
open Go Go.Proofs Go.RowKit Go.Shelf
attribute [local go_sem] Oper.semAt_some
def allF (B : Nat) : Value := .func (.func 47) #[] #[ptV B]
set_option maxRecDepth 100000 in
theorem all_any (w : World) (c : Nat) : Calls Try.prog 37 #[.pointer (some ⟨c, 3, none⟩)] w fun e w' => e = .returned (allF w.heap.size) ∧ w' = w.alloc (.cells #[.pointer (some ⟨c, 3, none⟩)] 86) := by
  go_enter Try.func37, Try.ntmps37
  go_wp2
  go_ret
  exact ⟨rfl, rfl⟩
/-- How many places are left from one on. -/
def lftN (ps : List Nat) : Value → Nat
  | .pointer (some a) => ps.length - ps.idxOf a.block
  | _ => 0
theorem lft_at {ps : List Nat} (h : ps.Nodup) {k : Nat} (hk : k < ps.length) : lftN ps (ptV (ps.getD k 0)) = ps.length - k := by
  have e : ps.getD k 0 = ps[k] := by simp [List.getD, List.getElem?_eq_getElem hk]
  rw [e]
  show ps.length - ps.idxOf ps[k] = _
  rw [List.Nodup.idxOf_getElem h]
/-- The k-th place, or none. -/
def plV (ps : List Nat) (k : Nat) : Value := if k < ps.length then ptV (ps.getD k 0) else niV
set_option maxRecDepth 100000 in
set_option maxHeartbeats 4000000 in
theorem all1_in (n : Nat) (hn : 1 ≤ n) (l B c : Nat) (ps : List Nat) (hnd : ps.Nodup) (J : Nat → World → Prop) (Jx : World → Prop) (W : World)
    (hB : W.cell? ⟨B, 0, none⟩ = some (.pointer (some ⟨c, 3, none⟩))) (hf : W.cell? ⟨c, 3, none⟩ = some (plV ps 0))
    (hc : ∀ k A, J k A → k < ps.length → A.cell? ⟨ps.getD k 0, 2, none⟩ = some (plV ps (k + 1)))
    (hY : ∀ k A, J k A → k < ps.length → YieldAt Fence.wide (n - 1) Try.prog l #[ptV (ps.getD k 0)] A fun e W' => (e = .returned (.bool true) ∧ J (k + 1) W') ∨ (e = .returned (.bool false) ∧ Jx W')) (h0 : J 0 W) :
    CallsIn Fence.wide n Try.prog 47 #[.func (.yield l) #[] #[], ptV B] W fun e W' => (∃ v, e = .returned v) ∧ (J ps.length W' ∨ Jx W') := by
  have HC := Hid.mk hc
  have HY := Hid.mk hY
  clear hc hY
  obtain ⟨v0, hv0⟩ : ∃ v, v = plV ps 0 := ⟨_, rfl⟩
  rw [← hv0] at hf
  refine callsIn_of_wp Try.func47 rfl trivial ?_ rfl
  simp only [Try.ntmps47, List.size_toArray, List.length_cons, List.length_nil, Nat.reduceAdd, Nat.reduceSub, Array.replicate_succ, Array.replicate_zero, List.push_toArray, List.append_toArray, List.nil_append, List.cons_append]
  gi_wp2
  gi_loopw [3] (fun v wr => ∃ k : Nat, Hid (k ≤ ps.length) ∧ v = plV ps k ∧ Hid (J k wr)) (fun v _ => lftN ps v)
  case atStart => exact ⟨0, Hid.mk (by omega), rfl, Hid.mk h0⟩
  case round =>
    obtain ⟨k, hk, rfl, hJ⟩ := hrel
    clear hv0 hB hf h0
    by_cases hlt : k < ps.length
    · have e0 : plV ps k = ptV (ps.getD k 0) := by unfold plV; rw [if_pos hlt]
      have hcell := HC.out k wr hJ.out hlt
      obtain ⟨fn, tmps, assign, body, hy, hR⟩ := HY.out k wr hJ.out hlt
      have HR : Hid (RoundIn Fence.wide (n - 1) Try.prog l fn tmps assign body wr fun e W' => ∃ b : Bool, e = .returned (.bool b) ∧ Hid ((b = true ∧ J (k + 1) W') ∨ (b = false ∧ Jx W'))) :=
        hR.mono (fun e W' h => h.elim (fun h => ⟨true, h.1, .inl ⟨rfl, h.2⟩⟩) (fun h => ⟨false, h.1, .inr ⟨rfl, h.2⟩⟩))
      rw [e0]
      obtain ⟨v1, hv1⟩ : ∃ v, v = plV ps (k + 1) := ⟨_, rfl⟩
      rw [← hv1] at hcell
      have HV1 := Hid.mk hv1
      have HLT := Hid.mk hlt
      have HM : Hid (lftN ps (ptV (ps.getD k 0)) = ps.length - k) := Hid.mk (lft_at hnd hlt)
      generalize ps.getD k 0 = p at *
      clear hR hJ hv1 hlt hk e0 HC HY
      gi_wp2_with (first | (refine HR.out.mono ?_; rintro e W4 ⟨b, rfl, HCC⟩) | (refine ⟨trivial, ?_⟩; refine HR.out.mono ?_; rintro e W4 ⟨b, rfl, HCC⟩))
      · have hb : b = false := by
          rename_i h
          simpa using h
        have hx : Jx W4 := by simpa [Hid, hb] using HCC
        refine bodyPost_ret (results_none rfl _ _ _) rfl ?_
        exact ⟨⟨_, rfl⟩, .inr hx⟩
      · have hb : b = true := by
          rename_i h
          simpa using h
        have hj : J (k + 1) W4 := by simpa [Hid, hb] using HCC
        refine ⟨⟨k + 1, Hid.mk HLT.out, HV1.out, Hid.mk hj⟩, ?_⟩
        have hlt := HLT.out
        rw [HM.out, HV1.out]
        by_cases h2 : k + 1 < ps.length
        · have e1 : plV ps (k + 1) = ptV (ps.getD (k + 1) 0) := by unfold plV; rw [if_pos h2]
          rw [e1, lft_at hnd h2]; omega
        · have e1 : plV ps (k + 1) = niV := by unfold plV; rw [if_neg h2]
          rw [e1]
          show 0 < _
          omega
    · have e0 : plV ps k = niV := by unfold plV; rw [if_neg hlt]
      obtain rfl : k = ps.length := by have := hk.out; omega
      rw [e0]
      clear e0 HC HY
      gi_wp2
      go_end0
      exact ⟨⟨_, rfl⟩, .inl hJ.out⟩
end Go.Proofs.Ytmbhjheoomlggaa
