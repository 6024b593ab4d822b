/-
  PathJoins: its walk.
-/
import Derived.Test.YtacmlidodgbgoaaPtSplits
namespace Go.Proofs.Ytacmlidodgbgoaa
open Go Go.Proofs Go.RowKit Go.Shelf

theorem catP_bound (L : List (List UInt8)) (B : Nat) (h : ∀ k, k < L.length → (L.getD k []).length ≤ B) : (catP L).length ≤ L.length * (B + 1) := by
  induction L with
  | nil => simp [catP]
  | cons a L ih =>
    have h0 : a.length ≤ B := h 0 (by simp)
    have := ih (fun k hk => h (k + 1) (by simpa using hk))
    have e : (catP (a :: L)).length = a.length + 1 + (catP L).length := by simp [catP]; omega
    rw [e, List.length_cons, Nat.add_mul]
    omega
theorem joinS_bound (L : List (List UInt8)) (B : Nat) (h : ∀ k, k < L.length → (L.getD k []).length ≤ B) : (joinS L).length ≤ L.length * (B + 1) := by
  by_cases h0 : L = []
  · subst h0; simp [joinS_nil]
  · have := catP_bound L B h
    rw [catP_join L h0] at this
    unfold joinP at this
    simp at this
    omega

set_option maxRecDepth 100000 in
set_option maxHeartbeats 4000000 in
theorem joins_any (w : World) (ao : Option Addr) (n c : Nat) (L : List (List UInt8)) (hL : SAt w ao n L) (hn : n ≤ 9223372036854775807) (hc : n ≤ c) : Calls Try.prog 4 #[.slice ao n c] w fun e w' => e = .returned (.bool true) ∧ Below w.heap.size w w' := by
  have HAL := Hid.mk (alive_any w)
  by_cases h1 : n ≤ 100
  · have hi1 : (n : Int) ≤ 100 := by omega
    have HLW : Hid (∀ W, Below w.heap.size w W → SAt W ao n L) := Hid.mk (fun W h => hL.below h)
    have HLL := Hid.mk hL.1
    clear hL hn
    go_enter Try.func4, Try.ntmps4
    go_wp2_with (go_at_call 7; refine HAL.out.mono ?_; rintro e W0 ⟨rfl, hw⟩; have HB0 := Hid.mk hw; clear hw)
    go_loopw [4, 5] (fun x i wr => ∃ k m : Nat, x = .int .i64 m ∧ i = .int .i64 k ∧ k ≤ n ∧ m ≤ k * 500 ∧ wr = W0 ∧ Hid (∀ j, j < k → (L.getD j []).length ≤ 500)) (fun _ i _ => n - (intOf i).toNat)
    case atStart => exact ⟨0, 0, rfl, rfl, Nat.zero_le _, Nat.zero_le _, rfl, Hid.mk (fun j hj => by omega)⟩
    case round =>
      obtain ⟨k, m, rfl, rfl, hk, hm, rfl, HA⟩ := hrel
      have hw1 : IntKind.i64.wrap ((k : Int) + 1) = (k : Int) + 1 := by rw [IntKind.wrap_i64]; omega
      by_cases hlt : k < n
      · have hi : (k : Int) < n := by omega
        obtain ⟨a', rfl, c1⟩ := (HLW.out _ HB0.out).at k hlt
        unfold strV at c1
        have HSZ := Hid.mk (mkS_size (L.getD k []))
        by_cases h5 : (L.getD k []).length ≤ 500
        · have h5' : ((mkS (L.getD k [])).size : Int) ≤ 500 := by rw [HSZ.out]; omega
          have hw2 : IntKind.i64.wrap ((m : Int) + ((mkS (L.getD k [])).size : Nat)) = (m : Int) + ((mkS (L.getD k [])).size : Nat) := by rw [IntKind.wrap_i64]; omega
          have HA2 : Hid (∀ j, j < k + 1 → (L.getD j []).length ≤ 500) := Hid.mk (fun j hj => by
            rcases Nat.lt_or_ge j k with h | h
            · exact HA.out j h
            · obtain rfl : j = k := by omega
              exact h5)
          have HM : Hid (m + (mkS (L.getD k [])).size ≤ (k + 1) * 500) := Hid.mk (by rw [HSZ.out]; omega)
          clear h5 HSZ
          generalize mkS (L.getD k []) = x at *
          go_wp2
          go_roundw
          case rel => exact ⟨k + 1, m + x.size, by go_num, by go_num, by omega, HM.out, trivial, HA2⟩
          case measure => simp [intOf]; omega
        · have h5' : ¬ ((mkS (L.getD k [])).size : Int) ≤ 500 := by rw [HSZ.out]; omega
          have h5'' : (500 : Int) < (mkS (L.getD k [])).size := by rw [HSZ.out]; omega
          generalize mkS (L.getD k []) = x at *
          clear h5 HSZ
          go_wp2
          go_ret
          exact ⟨rfl, HB0.out⟩
      · have hi : ¬ (k : Int) < n := by omega
        have hi2 : (n : Int) ≤ k := by omega
        obtain rfl : k = n := by omega
        have hall : ∀ j, j < L.length → (L.getD j []).length ≤ 500 := fun j hj => HA.out j (by rw [← HLL.out]; exact hj)
        have hb1 := joinS_bound L 500 hall
        have hb2 := catP_bound L 500 hall
        rw [HLL.out] at hb1 hb2
        have HJ : Hid (∀ W, Below w.heap.size w W → Calls Try.prog 12 #[.slice ao k c] W fun e w' => e = .returned (strV (joinP L)) ∧ Below W.heap.size W w') := Hid.mk (fun W h => join_any W ao k c L (HLW.out W h) (by omega) hc (by omega))
        have HRJ : Hid (∀ W, Below w.heap.size w W → Calls Try.prog 13 #[.slice ao k c] W fun e w' => e = .returned (strV (joinP L)) ∧ w' = W) := Hid.mk (fun W h => rjoin_any W ao k c L (HLW.out W h) (by omega) (by omega))
        have hjl : (joinP L).length ≤ 16777216 := by unfold joinP; simp; omega
        obtain ⟨s, hs⟩ : ∃ s, s = mkS (joinP L) := ⟨_, rfl⟩
        have hss : s.size ≤ 16777216 := by rw [hs, mkS_size]; exact hjl
        unfold strV at HJ HRJ
        rw [← hs] at HJ HRJ
        have HSA := Hid.mk (fun W => split_at W s hss)
        have HRS := Hid.mk (fun W => rsplit_at W s hss)
        have hnL : (splL (splitL (ofS s))).length ≤ 501 := split_len
        generalize splitL (ofS s) = oS at *
        obtain ⟨nL, hnl⟩ : ∃ nL, nL = (splL oS).length := ⟨_, rfl⟩
        rw [← hnl] at HSA HRS hnL
        have HSM : Hid (∀ W a b c d, SAt W a nL (splL oS) → SAt W b nL (splL oS) → Calls Try.prog 11 #[.slice a nL c, .slice b nL d] W fun e w' => e = .returned (.bool true) ∧ Below W.heap.size W w') := Hid.mk (fun W a b c d h1 h2 => by
          have := same_any W a b nL nL c d _ _ h1 h2 (by omega) (by omega)
          rw [decide_eq_true rfl] at this
          exact this)
        clear hnl hs hjl hb1 hb2 hall HA HLW HLL
        cases oS with
        | none =>
          go_wp2_with (first
            | (go_at_call 12; refine (HJ.out _ HB0.out).mono ?_; rintro e W1 ⟨rfl, hw⟩; have HB1 := Hid.mk (HB0.out.trans (hw.mono HB0.out.size)); clear hw)
            | (go_at_call 13; refine (HRJ.out _ HB1.out).mono ?_; rintro e w'' ⟨rfl, hw⟩; subst w'')
            | (go_at_call 9; refine (HRS.out _).mono ?_; rintro e W2 ⟨aR, cR, rfl, HR⟩; have HB2 := Hid.mk (HB1.out.trans (HR.out.2.mono HB1.out.size)); have HS2 := Hid.mk (HR.out.1); clear HR)
            | (go_at_call 8; refine (HSA.out _).mono ?_; rintro e W3 ⟨aL, cL, rfl, HL⟩; have HB3 := Hid.mk (HB2.out.trans (HL.out.2.2.2.mono HB2.out.size)); have HS3 := Hid.mk (HS2.out.below HL.out.2.2.2); have HL3 := Hid.mk (HL.out.2.1); clear HL)
            | (go_at_call 10; refine (num_any _ _).mono ?_; rintro e w'' ⟨rfl, hw⟩; subst w'')
            | (go_at_call 11; refine (HSM.out _ _ _ _ _ HL3.out HS3.out).mono ?_; rintro e W4 ⟨rfl, hw⟩; have HB4 := Hid.mk (HB3.out.trans (hw.mono HB3.out.size)); clear hw))
          go_ret
          exact ⟨rfl, HB4.out⟩
        | some M =>
          go_wp2_with (first
            | (go_at_call 12; refine (HJ.out _ HB0.out).mono ?_; rintro e W1 ⟨rfl, hw⟩; have HB1 := Hid.mk (HB0.out.trans (hw.mono HB0.out.size)); clear hw)
            | (go_at_call 13; refine (HRJ.out _ HB1.out).mono ?_; rintro e w'' ⟨rfl, hw⟩; subst w'')
            | (go_at_call 9; refine (HRS.out _).mono ?_; rintro e W2 ⟨aR, cR, rfl, HR⟩; have HB2 := Hid.mk (HB1.out.trans (HR.out.2.mono HB1.out.size)); have HS2 := Hid.mk (HR.out.1); clear HR)
            | (go_at_call 8; refine (HSA.out _).mono ?_; rintro e W3 ⟨aL, cL, rfl, HL⟩; have HB3 := Hid.mk (HB2.out.trans (HL.out.2.2.2.mono HB2.out.size)); have HS3 := Hid.mk (HS2.out.below HL.out.2.2.2); have HL3 := Hid.mk (HL.out.2.1); clear HL)
            | (go_at_call 10; refine (num_any _ _).mono ?_; rintro e w'' ⟨rfl, hw⟩; subst w'')
            | (go_at_call 11; refine (HSM.out _ _ _ _ _ HL3.out HS3.out).mono ?_; rintro e W4 ⟨rfl, hw⟩; have HB4 := Hid.mk (HB3.out.trans (hw.mono HB3.out.size)); clear hw))
          go_ret
          exact ⟨rfl, HB4.out⟩
  · have hi2 : ¬ (n : Int) ≤ 100 := by omega
    have hi3 : (100 : Int) < n := by omega
    go_enter Try.func4, Try.ntmps4
    go_wp2_with (go_at_call 7; refine HAL.out.mono ?_; rintro e W0 ⟨rfl, hw⟩; have HB0 := Hid.mk hw; clear hw)
    go_ret
    exact ⟨rfl, HB0.out⟩
end Go.Proofs.Ytacmlidodgbgoaa
