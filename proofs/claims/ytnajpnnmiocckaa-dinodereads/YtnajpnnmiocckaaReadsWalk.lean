/-
  DinodeReads: what any bytes are as an inode, or that they are none.
-/
import Derived.Test.YtnajpnnmiocckaaReadRef
namespace Go.Proofs.Ytnajpnnmiocckaa
open Go Go.Proofs Go.RowKit Go.Shelf

theorem owns_caps {w : World} {base : Nat} {v : Value} {n : Nat} {xs : List Int} (h : w.ownsRow base 5 1 v n (By xs)) : ∃ ao c, v = .slice ao n c ∧ BAt w ao n xs ∧ n ≤ c ∧ c ≤ 9223372036854775807 := by
  obtain ⟨ao, c, rfl, hb, -⟩ := owns_BAt h
  refine ⟨ao, c, rfl, hb, ?_⟩
  rcases h.2 with ⟨e, e2⟩ | ⟨g, cap, cur, e, _, _, h1, h2, _⟩
  · cases e; omega
  · cases e
    unfold maxLen at h2
    omega

theorem reads_long (w : World) (ao : Option Addr) (n c : Nat) (hn : 1000 < n) (hn2 : n ≤ 9223372036854775807) :
    Calls Try.prog 4 #[.slice ao n c] w fun e w' => e = .returned (.bool true) ∧ Below w.heap.size w w' := by
  have h5 : (1000 : Int) < (n : Int) := by omega
  go_enter Try.func4, Try.ntmps4
  go_wp2_with (go_at_call 8; refine (alive_any _).mono ?_; rintro e w1 ⟨rfl, hB⟩; have HB1 := Hid.mk hB; clear hB)
  go_ret
  exact ⟨rfl, HB1.out⟩

set_option maxRecDepth 100000 in
set_option maxHeartbeats 4000000 in
theorem reads_short (w : World) (ao : Option Addr) (n c : Nat) (xs : List Int) (h : BAt w ao n xs) (hx : ∀ x ∈ xs, 0 ≤ x ∧ x ≤ 255) (hn : n ≤ 1000) (hnone : ao = none → n = 0 ∧ c = 0) :
    Calls Try.prog 4 #[.slice ao n c] w fun e w' => e = .returned (.bool true) ∧ Below w.heap.size w w' := by
  have hn5 : decide ((1000 : Int) < (n : Int)) = false := decide_eq_false (by omega)
  have HBA : Hid (∀ W, Below w.heap.size w W → BAt W ao n xs) := Hid.mk (fun W hB => h.below hB)
  have HAP : Hid (∀ W, Below w.heap.size w W → ∃ ao' c' W', (Builtin.append_ #[26, 26] 26 #[.slice none 0 0, .slice ao n c]).run Try.prog W = .ok (.slice ao' n c') W' ∧ BAt W' ao' n xs ∧ n ≤ c' ∧ c' ≤ 9223372036854775807 ∧ Below W.heap.size W W') := Hid.mk (fun W hB => by
    obtain ⟨v', W', h1, h2, h3⟩ := append_nil_below W ao n c xs (HBA.out W hB) (by omega) hnone
    obtain ⟨ao', c', rfl, h4, h5, h6⟩ := owns_caps h2
    exact ⟨ao', c', W', h1, h4, h5, h6, h3⟩)
  have HX := Hid.mk hx
  have HRL := Hid.mk (rdL_length xs)
  clear h hx hnone
  cases hr : rdB xs with
  | false =>
    have HRD : Hid (∀ W ao' c', BAt W ao' n xs → n ≤ c' → c' ≤ 9223372036854775807 → Calls Try.prog 12 #[.slice ao' n c'] W fun e w' => e = .returned (.tuple #[inoV (zeros 13), .int .i64 5]) ∧ Below W.heap.size W w') := Hid.mk (fun W ao' c' h1 h2 h3 => by
      have h := read_any W ao' n c' xs h1 HX.out h2 h3
      rwa [(rd_no hr).1, (rd_no hr).2] at h)
    have HRS : Hid (∀ W, Below w.heap.size w W → Calls Try.prog 13 #[.slice ao n c] W fun e w' => e = .returned (.tuple #[inoV (zeros 13), .bool false]) ∧ Below W.heap.size W w') := Hid.mk (fun W hB => by
      have h := rread_any W ao n c xs (HBA.out W hB) HX.out
      rwa [(rd_no hr).1, hr] at h)
    clear hr HBA
    go_enter Try.func4, Try.ntmps4
    go_wp2_with (first
      | (go_at_call 8; refine (alive_any _).mono ?_; rintro e w1 ⟨rfl, hB⟩; obtain ⟨ao', c', W2, hrA, hBA, hc1, hc2, hB2⟩ := HAP.out w1 hB; have HB := Hid.mk (hB.trans (hB2.mono hB.size)); have HRA := Hid.mk hrA; have HCA := Hid.mk (HRD.out W2 ao' c' hBA hc1 hc2); clear hB hrA hBA hc1 hc2 hB2 HAP)
      | (at_builtin; refine wpList_append_known rfl (.const (.slice none 0 0)) (.tmp 20) 26 rfl (.slice none 0 0) (.slice ao n c) _ _ rfl rfl HRA.out ?_)
      | (go_at_call 12; refine HCA.out.mono ?_; rintro e W3 ⟨rfl, hB⟩; obtain ⟨X, Y, d, hrX, hrY, hD, hBY, hd⟩ := var24 W3 (zeros 13) (zeros_length 13); replace HB := Hid.mk ((HB.out.trans (hB.mono HB.out.size)).trans (hBY.mono (Nat.le_trans HB.out.size hB.size))); have HD := Hid.mk hD; have HRX := Hid.mk hrX; have HRY := Hid.mk hrY; clear hrX hrY hD hBY hd hB HCA)
      | (have hA := HRX.out; refine wpL_alloc rfl rfl _ X hA ?_; clear hA HRX)
      | (refine wpL_store (.tmp 4) (.tmp 23) rfl rfl _ _ Y rfl rfl HRY.out ?_)
      | (go_at_call 13; refine (HRS.out _ HB.out).mono ?_; rintro e W4 ⟨rfl, hB⟩; obtain ⟨X2, Y2, d2, hrX, hrY, hD2, hBY, hd⟩ := var24 W4 (zeros 13) (zeros_length 13); replace HB := Hid.mk ((HB.out.trans (hB.mono HB.out.size)).trans (hBY.mono (Nat.le_trans HB.out.size hB.size))); replace HD := Hid.mk ((HD.out.below hB HD.out.lt).below hBY (Nat.lt_of_lt_of_le HD.out.lt hB.size)); have HD2 := Hid.mk hD2; have HRX2 := Hid.mk hrX; have HRY2 := Hid.mk hrY; clear hrX hrY hD2 hBY hd hB)
      | (refine wpL_alloc rfl rfl _ X2 HRX2.out ?_)
      | (refine wpL_store (.tmp 6) (.tmp 28) rfl rfl _ _ Y2 rfl rfl HRY2.out ?_)
      | (go_at_call 11; refine (num_any _ _).mono ?_; rintro e w3 ⟨rfl, hw⟩; subst w3)
      | (refine wpL_load (.tmp 4) rfl rfl d (zeros 13) rfl HD.out (zeros_length 13) ?_)
      | (refine wpL_load (.tmp 6) rfl rfl d2 (zeros 13) rfl HD2.out (zeros_length 13) ?_)
      | (refine wpL_neq (.tmp 45) (.tmp 46) 24 rfl rfl (zeros 13) (zeros 13) true (by simp [eqB]) rfl rfl (zeros_length 13) (zeros_length 13) ?_))
    go_ret
    exact ⟨rfl, HB.out⟩
  | true =>
    have hlen := rdB_len hr
    have hlen2 : n = 64 := by have h := (HBA.out w (Below.refl _ w)).1; omega
    have hol := ofB_length xs hlen
    have hparts : fineL (ofB xs) = true ∧ xs = inoL (ofB xs) := by
      have h := hr
      unfold rdB at h
      simp only [Bool.and_eq_true, eqB, decide_eq_true_eq] at h
      exact h.2
    have HRD : Hid (∀ W ao' c', BAt W ao' n xs → n ≤ c' → c' ≤ 9223372036854775807 → Calls Try.prog 12 #[.slice ao' n c'] W fun e w' => e = .returned (.tuple #[inoV (ofB xs), .int .i64 0]) ∧ Below W.heap.size W w') := Hid.mk (fun W ao' c' h1 h2 h3 => by
      have h := read_any W ao' n c' xs h1 HX.out h2 h3
      rwa [(rd_yes hr).1, (rd_yes hr).2] at h)
    have HRS : Hid (∀ W, Below w.heap.size w W → Calls Try.prog 13 #[.slice ao n c] W fun e w' => e = .returned (.tuple #[inoV (ofB xs), .bool true]) ∧ Below W.heap.size W w') := Hid.mk (fun W hB => by
      have h := rread_any W ao n c xs (HBA.out W hB) HX.out
      rwa [(rd_yes hr).1, hr] at h)
    have HP := Hid.mk (fun W => pack_yes W (ofB xs) hol hparts.1)
    obtain ⟨SX, hSX⟩ : ∃ SX, SX = strOfNums xs := ⟨_, rfl⟩
    have HSX := Hid.mk hSX
    have HSY : Hid (SX = strOfNums (inoL (ofB xs))) := Hid.mk (by rw [hSX, ← hparts.2])
    have HIL := Hid.mk (inoL_length (ofB xs) hol)
    have HOL := Hid.mk hol
    clear hr hlen hlen2 hol hparts hSX HRL
    generalize ofB xs = l at *
    go_enter Try.func4, Try.ntmps4
    go_wp2_with (first
      | (go_at_call 8; refine (alive_any _).mono ?_; rintro e w1 ⟨rfl, hB⟩; obtain ⟨ao', c', W2, hrA, hBA, hc1, hc2, hB2⟩ := HAP.out w1 hB; have HB := Hid.mk (hB.trans (hB2.mono hB.size)); have HRA := Hid.mk hrA; have HCA := Hid.mk (HRD.out W2 ao' c' hBA hc1 hc2); clear hB hrA hBA hc1 hc2 hB2 HAP)
      | (at_builtin; refine wpList_append_known rfl (.const (.slice none 0 0)) (.tmp 20) 26 rfl (.slice none 0 0) (.slice ao n c) _ _ rfl rfl HRA.out ?_)
      | (go_at_call 12; refine HCA.out.mono ?_; rintro e W3 ⟨rfl, hB⟩; obtain ⟨X, Y, d, hrX, hrY, hD, hBY, hd⟩ := var24 W3 l HOL.out; replace HB := Hid.mk ((HB.out.trans (hB.mono HB.out.size)).trans (hBY.mono (Nat.le_trans HB.out.size hB.size))); have HD := Hid.mk hD; have HRX := Hid.mk hrX; have HRY := Hid.mk hrY; clear hrX hrY hD hBY hd hB HCA)
      | (have hA := HRX.out; refine wpL_alloc rfl rfl _ X hA ?_; clear hA HRX)
      | (refine wpL_store (.tmp 4) (.tmp 23) rfl rfl _ _ Y rfl rfl HRY.out ?_)
      | (go_at_call 13; refine (HRS.out _ HB.out).mono ?_; rintro e W4 ⟨rfl, hB⟩; obtain ⟨X2, Y2, d2, hrX, hrY, hD2, hBY, hd⟩ := var24 W4 l HOL.out; replace HB := Hid.mk ((HB.out.trans (hB.mono HB.out.size)).trans (hBY.mono (Nat.le_trans HB.out.size hB.size))); replace HD := Hid.mk ((HD.out.below hB HD.out.lt).below hBY (Nat.lt_of_lt_of_le HD.out.lt hB.size)); have HD2 := Hid.mk hD2; have HRX2 := Hid.mk hrX; have HRY2 := Hid.mk hrY; clear hrX hrY hD2 hBY hd hB)
      | (refine wpL_alloc rfl rfl _ X2 HRX2.out ?_)
      | (refine wpL_store (.tmp 6) (.tmp 28) rfl rfl _ _ Y2 rfl rfl HRY2.out ?_)
      | (go_at_call 11; refine (num_any _ _).mono ?_; rintro e w3 ⟨rfl, hw⟩; subst w3)
      | (refine wpL_load (.tmp 4) rfl rfl d l rfl HD.out HOL.out ?_)
      | (refine wpL_load (.tmp 6) rfl rfl d2 l rfl HD2.out HOL.out ?_)
      | (refine wpL_neq (.tmp 45) (.tmp 46) 24 rfl rfl l l true (by simp [eqB]) rfl rfl HOL.out HOL.out ?_)
      | (go_at_call 9; refine (HP.out _).mono ?_; rintro e W5 ⟨g, rfl, hrow, hge, hB⟩; replace HB := Hid.mk (HB.out.trans (hB.mono HB.out.size)); have HRW := Hid.mk hrow; have HBX := Hid.mk (HBA.out _ HB.out); clear hrow hge hB)
      | (refine wpL_conv (.tmp 60) rfl rfl (some ⟨g, 0, none⟩) 64 64 (inoL l) rfl (HRW.out.full HIL.out) SX HSY.out ?_)
      | (refine wpL_conv (.tmp 62) rfl rfl ao n c xs rfl HBX.out SX HSX.out ?_)
      | (refine wpL_streql (.tmp 61) (.tmp 63) 9 rfl rfl SX SX true (by simp) rfl rfl ?_))
    go_ret
    exact ⟨rfl, HB.out⟩

theorem reads_any (w : World) (ao : Option Addr) (n c : Nat) (xs : List Int) (h : BAt w ao n xs) (hx : ∀ x ∈ xs, 0 ≤ x ∧ x ≤ 255) (hc : n ≤ c) (hc2 : c ≤ 9223372036854775807) (hnone : ao = none → n = 0 ∧ c = 0) :
    Calls Try.prog 4 #[.slice ao n c] w fun e w' => e = .returned (.bool true) ∧ Below w.heap.size w w' := by
  by_cases hn : n ≤ 1000
  · exact reads_short w ao n c xs h hx hn hnone
  · exact reads_long w ao n c (by omega) (by omega)
end Go.Proofs.Ytnajpnnmiocckaa
