/-
  PathSplits: its walk.
-/
import Derived.Test.YtacmlidodgbgoaaPtLaw
namespace Go.Proofs.Ytacmlidodgbgoaa
open Go Go.Proofs Go.RowKit Go.Shelf

/-- Split, told by what it leaves: a row of strings at its own place. -/
theorem split_at (w : World) (s : ByteArray) (hs : s.size ≤ 16777216) :
    Calls Try.prog 8 #[.string s] w fun e w' => ∃ ao c, e = .returned (.tuple #[.slice ao (splL (splitL (ofS s))).length c, .int .i64 (splE (splitL (ofS s)))]) ∧ Hid (w'.ownsRow w.heap.size 9 1 (.slice ao (splL (splitL (ofS s))).length c) (splL (splitL (ofS s))).length (Sy (splL (splitL (ofS s)))) ∧ SAt w' ao (splL (splitL (ofS s))).length (splL (splitL (ofS s))) ∧ (splL (splitL (ofS s))).length ≤ c ∧ Below w.heap.size w w') := by
  refine (split_any w s hs).mono ?_
  rintro e w' ⟨v, rfl, hO, hB⟩
  obtain ⟨ao, c, rfl, hS, -, hc, -⟩ := owns_SAt hO
  exact ⟨ao, c, rfl, Hid.mk ⟨hO, hS, hc, hB⟩⟩
theorem rsplit_at (w : World) (s : ByteArray) (hs : s.size ≤ 16777216) :
    Calls Try.prog 9 #[.string s] w fun e w' => ∃ ao c, e = .returned (.tuple #[.slice ao (splL (splitL (ofS s))).length c, .bool (splitL (ofS s)).isSome]) ∧ Hid (SAt w' ao (splL (splitL (ofS s))).length (splL (splitL (ofS s))) ∧ Below w.heap.size w w') := by
  refine (rsplit_any w s hs).mono ?_
  rintro e w' ⟨v, rfl, hO, hB⟩
  obtain ⟨ao, c, rfl, hS, -, hc, -⟩ := owns_SAt hO
  exact ⟨ao, c, rfl, Hid.mk ⟨hS, hB⟩⟩
theorem split_len {l : List UInt8} : (splL (splitL l)).length ≤ 501 := by
  cases h : splitL l with
  | none => simp [splL]
  | some L =>
    simp [splL]
    cases l with
    | nil => cases h
    | cons c r =>
      simp only [splitL] at h
      split at h
      · rename_i hc
        cases h
        have := parts_count r
        omega
      · cases h

/-- A block of cells of so many. -/
def CB (g cap : Nat) (W : World) : Prop := ∃ cur : Array Value, W.heap[g]? = some (.cells cur 9 (0, 0)) ∧ cur.size = cap
theorem owns_CB {w : World} {base : Nat} {ao : Option Addr} {n c : Nat} {L : List (List UInt8)} (h : w.ownsRow base 9 1 (.slice ao n c) n (Sy L)) (hn : 0 < n) : ∃ g, ao = some ⟨g, 0, none⟩ ∧ base ≤ g ∧ CB g c w ∧ n ≤ c := by
  obtain ⟨h1, h2⟩ := h
  rcases h2 with ⟨h3, rfl⟩ | ⟨g, cap, cur, e, hg, hh, hnc, hm, hsz, ht⟩
  · cases h3; omega
  · cases e
    exact ⟨g, rfl, hg, ⟨cur, hh, by simpa using hsz⟩, hnc⟩
theorem CB.cell {g cap : Nat} {W : World} (h : CB g cap W) (k : Nat) (hk : k < cap) : (∃ u, W.cell? ⟨g, k, none⟩ = some u) ∧ W.frozen? ⟨g, k, none⟩ = false := by
  obtain ⟨cur, hc, hs⟩ := h
  refine ⟨⟨cur[k]'(by omega), ?_⟩, blk_free hc k⟩
  rw [blk_cell hc]
  exact Array.getElem?_eq_getElem (by omega)
theorem CB.set {g cap : Nat} {W : World} (h : CB g cap W) (k : Nat) (u : Value) : CB g cap (W.setCell ⟨g, k, none⟩ u) := by
  obtain ⟨cur, hc, hs⟩ := h
  exact ⟨cur.setIfInBounds k u, by rw [blk_set hc], by simpa using hs⟩

set_option maxRecDepth 100000 in
set_option maxHeartbeats 4000000 in
theorem splits_any (w : World) (s o : ByteArray) (hs : s.size ≤ 9223372036854775807) (ho : o.size ≤ 9223372036854775807) : Calls Try.prog 3 #[.string s, .string o] w fun e w' => e = .returned (.bool true) ∧ Below w.heap.size w w' := by
  have HAL := Hid.mk (alive_any w)
  by_cases h1 : s.size ≤ 5000
  · by_cases h2 : o.size ≤ 5000
    · have hi1 : (s.size : Int) ≤ 5000 := by omega
      have hi2 : (o.size : Int) ≤ 5000 := by omega
      have HSA := Hid.mk (fun W => split_at W s (by omega))
      have HSO := Hid.mk (fun W => split_at W o (by omega))
      have HRS := Hid.mk (fun W => rsplit_at W s (by omega))
      have hnL : (splL (splitL (ofS s))).length ≤ 501 := split_len
      have hnM : (splL (splitL (ofS o))).length ≤ 501 := split_len
      have HJ : Hid (splitL (ofS s) = none ∨ ∃ L, splitL (ofS s) = some L ∧ joinP L = ofS s ∧ (joinS L).length ≤ 5000) := Hid.mk (by
        cases hh : splitL (ofS s) with
        | none => exact .inl rfl
        | some L =>
          obtain ⟨e1, -, e2⟩ := split_some hh
          refine .inr ⟨L, rfl, e1, ?_⟩
          rw [← e1] at e2
          unfold joinP at e2
          simp at e2
          omega)
      obtain ⟨oS, hoS⟩ : ∃ oS, oS = splitL (ofS s) := ⟨_, rfl⟩
      obtain ⟨M, hM⟩ : ∃ M, M = splL (splitL (ofS o)) := ⟨_, rfl⟩
      rw [← hoS] at HSA HRS HJ hnL
      rw [← hM] at HSO hnM
      obtain ⟨nM, hnm⟩ : ∃ nM, nM = M.length := ⟨_, rfl⟩
      obtain ⟨nL, hnl⟩ : ∃ nL, nL = (splL oS).length := ⟨_, rfl⟩
      rw [← hnm] at HSO hnM
      rw [← hnl] at HSA HRS hnL
      have HNL := Hid.mk hnl
      clear hoS hM hnm hnl h1 h2 hs ho
      go_enter Try.func3, Try.ntmps3
      go_wp2_with (first
        | (go_at_call 7; refine HAL.out.mono ?_; rintro e W0 ⟨rfl, hw⟩; have HB0 := Hid.mk hw; clear hw)
        | (go_at_call 8; first | (refine (HSA.out _).mono ?_; clear HSA; rintro e W1 ⟨aL, cL, rfl, HL⟩) | (refine (HSO.out _).mono ?_; rintro e W2 ⟨aM, cM, rfl, HM⟩)))
      obtain ⟨-, hLS, hcL, hLB⟩ := HL.out
      obtain ⟨hMO, -, hcM, hMB⟩ := HM.out
      have HLS := Hid.mk hLS
      have HCL := Hid.mk hcL
      have HB1 : Hid (Below w.heap.size w W1) := Hid.mk (HB0.out.trans (hLB.mono HB0.out.size))
      have HM0 : Hid (Below W1.heap.size W1 W2 ∧ (0 < nM → ∃ g, aM = some ⟨g, 0, none⟩ ∧ W1.heap.size ≤ g ∧ CB g cM W2 ∧ nM ≤ cM)) := Hid.mk ⟨hMB, fun h => owns_CB hMO h⟩
      clear hLS hcL hLB hMO hcM hMB HL HM HSO HB0 HAL
      go_loopw [10] (fun i wr => ∃ k : Nat, i = .int .i64 k ∧ k ≤ nM ∧ Hid (Below W1.heap.size W1 wr ∧ (0 < nM → ∃ g, aM = some ⟨g, 0, none⟩ ∧ W1.heap.size ≤ g ∧ CB g cM wr ∧ nM ≤ cM))) (fun i _ => nM - (intOf i).toNat)
      case atStart => exact ⟨0, rfl, Nat.zero_le _, HM0⟩
      case round =>
        obtain ⟨k, rfl, hk, HI⟩ := hrel
        have hw1 : IntKind.i64.wrap ((k : Int) + 1) = (k : Int) + 1 := by rw [IntKind.wrap_i64]; omega
        by_cases hlt : k < nM
        · have hi : (k : Int) < nM := by omega
          obtain ⟨hB, hI⟩ := HI.out
          obtain ⟨g, rfl, hg, hC, hcM⟩ := hI (by omega)
          obtain ⟨⟨u, hu⟩, hf⟩ := hC.cell k (by omega)
          obtain ⟨a, ha⟩ : ∃ a : Addr, a = ⟨g, 0, none⟩ := ⟨_, rfl⟩
          have e : (⟨g, k, none⟩ : Addr) = a.add k := by rw [ha, add_at, Nat.zero_add]
          have hN : Hid (Below W1.heap.size W1 (wr.setCell (a.add k) (.string ⟨#[103, 111, 110, 101]⟩)) ∧ (0 < nM → ∃ g', some a = some ⟨g', 0, none⟩ ∧ W1.heap.size ≤ g' ∧ CB g' cM (wr.setCell (a.add k) (.string ⟨#[103, 111, 110, 101]⟩)) ∧ nM ≤ cM)) := Hid.mk (by
            rw [← e]
            exact ⟨hB.setCell (p := ⟨g, k, none⟩) hg _, fun _ => ⟨g, by rw [ha], hg, hC.set k _, hcM⟩⟩)
          rw [e] at hu hf
          rw [← ha]
          clear ha e hB hI hg hC hcM HI HM0
          go_wp2
          go_roundw
          case rel => exact ⟨k + 1, by go_num, by omega, hN⟩
          case measure => simp [intOf]; omega
        · have hi : ¬ (k : Int) < nM := by omega
          have hi2 : (nM : Int) ≤ k := by omega
          have hBw : Below W1.heap.size W1 wr := HI.out.1
          have HBW := Hid.mk hBw
          have HLW := Hid.mk (HLS.out.below hBw)
          have HSM : Hid (∀ W b c d, SAt W aL nL (splL oS) → SAt W b nL (splL oS) → Calls Try.prog 11 #[.slice aL nL c, .slice b nL d] W fun e w' => e = .returned (.bool true) ∧ Below W.heap.size W w') := Hid.mk (fun W b c d h1 h2 => by
            have := same_any W aL b nL nL c d _ _ h1 h2 (by omega) (by omega)
            rw [decide_eq_true rfl] at this
            exact this)
          clear hBw HI HM0
          rcases HJ.out with h | ⟨L, h, hj, hjl⟩
          · subst h
            go_wp2_with (first
              | (go_at_call 9; refine (HRS.out _).mono ?_; rintro e W3 ⟨aR, cR, rfl, HR⟩; have HB3 := Hid.mk (HR.out.2); have HS3 := Hid.mk (HR.out.1); have HL3 := Hid.mk (HLW.out.below HR.out.2); clear HR)
              | (go_at_call 10; refine (num_any _ _).mono ?_; rintro e w'' ⟨rfl, hw⟩; subst w'')
              | (go_at_call 11; refine (HSM.out _ _ _ _ HL3.out HS3.out).mono ?_; rintro e W4 ⟨rfl, hw⟩; have HB4 := Hid.mk hw; clear hw))
            go_ret
            exact ⟨rfl, HB1.out.trans ((HBW.out.trans ((HB3.out.mono HBW.out.size).trans (HB4.out.mono (Nat.le_trans HBW.out.size HB3.out.size)))).mono HB1.out.size)⟩
          · subst h
            have HJN : Hid (∀ W, SAt W aL nL L → Calls Try.prog 12 #[.slice aL nL cL] W fun e w' => e = .returned (.string s) ∧ Below W.heap.size W w') := Hid.mk (fun W h => by
              have := join_any W aL nL cL L h (by omega) HCL.out (by omega)
              unfold strV at this
              rw [hj, mk_of] at this
              exact this)
            clear hj hjl
            go_wp2_with (first
              | (go_at_call 9; refine (HRS.out _).mono ?_; rintro e W3 ⟨aR, cR, rfl, HR⟩; have HB3 := Hid.mk (HR.out.2); have HS3 := Hid.mk (HR.out.1); have HL3 := Hid.mk (HLW.out.below HR.out.2); clear HR)
              | (go_at_call 10; refine (num_any _ _).mono ?_; rintro e w'' ⟨rfl, hw⟩; subst w'')
              | (go_at_call 11; refine (HSM.out _ _ _ _ HL3.out HS3.out).mono ?_; rintro e W4 ⟨rfl, hw⟩; have HB4 := Hid.mk hw; have HL4 := Hid.mk (HL3.out.below hw); clear hw)
              | (go_at_call 12; refine (HJN.out _ HL4.out).mono ?_; rintro e W5 ⟨rfl, hw⟩; have HB5 := Hid.mk hw; clear hw))
            go_ret
            have b4 := HBW.out.trans ((HB3.out.mono HBW.out.size).trans (HB4.out.mono (Nat.le_trans HBW.out.size HB3.out.size)))
            exact ⟨rfl, HB1.out.trans ((b4.trans (HB5.out.mono b4.size)).mono HB1.out.size)⟩
    · have hi1 : (s.size : Int) ≤ 5000 := by omega
      have hi2 : ¬ (o.size : Int) ≤ 5000 := by omega
      have hi3 : (5000 : Int) < o.size := by omega
      go_enter Try.func3, Try.ntmps3
      go_wp2_with (go_at_call 7; refine HAL.out.mono ?_; rintro e W0 ⟨rfl, hw⟩; have HB0 := Hid.mk hw; clear hw)
      go_ret
      exact ⟨rfl, HB0.out⟩
  · have hi2 : ¬ (s.size : Int) ≤ 5000 := by omega
    have hi3 : (5000 : Int) < s.size := by omega
    go_enter Try.func3, Try.ntmps3
    go_wp2_with (go_at_call 7; refine HAL.out.mono ?_; rintro e W0 ⟨rfl, hw⟩; have HB0 := Hid.mk hw; clear hw)
    go_ret
    exact ⟨rfl, HB0.out⟩
end Go.Proofs.Ytacmlidodgbgoaa
