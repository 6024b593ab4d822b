/-
  The document's example, and the document's own With, Count and First.
-/
import Derived.Test.YtpcafjaajklkoaaFirst
import Derived.Test.YtpcafjaajklkoaaWith
import Derived.Deep.Cut
import Derived.Deep.CutRange
import Derived.Deep.CutBlock
namespace Go.Proofs.Ytpcafjaajklkoaa
open Go Go.Proofs Go.RowKit Go.Shelf

theorem alive_any (w : World) : Calls Try.prog 6 #[] w fun e w' => e = .returned (.bool true) ∧ Below w.heap.size w w' := by
  have hb : BAt (w.alloc (.cells #[.int .u8 255, .int .u8 1] 5)) (some ⟨w.heap.size, 0, none⟩) 2 [255, 1] := by
    have h0 := blk_new w (.cells #[.int .u8 255, .int .u8 1] 5)
    refine ⟨rfl, fun _ => ⟨_, rfl, by simp, fun i hi => ?_⟩⟩
    rw [add_at, blk_cell h0]
    match i, hi with
    | 0, _ => rfl
    | 1, _ => rfl
  have HF := Hid.mk (first_any _ _ 2 2 _ hb (by decide) (by omega) 16 0 ⟨by omega, by omega⟩ ⟨by omega, by omega⟩)
  rw [show fstN [255, 1] (bndI [255, 1] 16) (bFrom 0) = some 9 from by decide +kernel] at HF
  clear hb
  go_enter Try.func6, Try.ntmps6
  go_wp2_with (go_at_call 9; refine HF.out.mono ?_; rintro e w' ⟨rfl, hB⟩; dsimp only [fstV])
  go_ret
  exact ⟨rfl, ((Below.refl _ w).alloc (Nat.le_refl _) _).trans (hB.mono (by simp))⟩

theorem cntN_succ (xs : List Int) (q : Nat) : cntN xs (q + 1) = cntN xs q + (if getN xs q = true then 1 else 0) := by
  unfold cntN
  rw [List.range_succ, List.countP_append]
  simp [List.countP_cons]
theorem cntN_le (xs : List Int) (q : Nat) : cntN xs q ≤ q := by
  have h : cntN xs q ≤ (List.range q).length := List.countP_le_length
  simpa using h

set_option maxHeartbeats 1000000 in
theorem refcount_any (w : World) (ao : Option Addr) (l c : Nat) (xs : List Int) (h : BAt w ao l xs) (hx : ∀ x ∈ xs, 0 ≤ x ∧ x ≤ 255) (hbig : l ≤ 140737488355328) (n : Int) (hn : I64 n) :
    Calls Try.prog 14 #[.slice ao l c, .int .i64 n] w fun e w' => e = .returned (.int .i64 (cntN xs (bndI xs n) : Nat)) ∧ w' = w := by
  have HB := Hid.mk (bound_any w ao l c xs h.1 hbig n hn)
  have HG := Hid.mk (fun i hi => refget_any w ao l c xs h hx i hi)
  obtain ⟨hn1, hn2⟩ := hn
  have hlen := h.1
  have hE : bndI xs n = min n.toNat (8 * l) := by unfold bndI; rw [hlen]
  obtain ⟨E, hEe⟩ : ∃ E, E = bndI xs n := ⟨_, rfl⟩
  rw [← hEe] at hE ⊢
  obtain ⟨B, hB⟩ : ∃ B, B = min n (8 * (l : Int)) := ⟨_, rfl⟩
  rw [← hB] at HB
  have hlt : ∀ q : Nat, q < E → (q : Int) < B := fun q hq => by omega
  have hge : B ≤ (E : Int) := by omega
  have hEl : E ≤ 8 * l := by omega
  have HL := Hid.mk hlt
  clear h hx hEe hlen hB hE hn1 hn2 hlt
  go_enter Try.func14, Try.ntmps14
  go_wp2
  go_loop [5, 6] (fun k i => ∃ q : Nat, q ≤ E ∧ i = .int .i64 q ∧ k = .int .i64 (cntN xs q : Nat)) (fun _ i => E - (intOf i).toNat)
  case atStart => exact ⟨0, by omega, rfl, rfl⟩
  case round =>
    obtain ⟨q, hq, rfl, rfl⟩ := hrel
    by_cases hqE : q < E
    · have hqB := HL.out q hqE
      have HGq := HG.out (q : Int) ⟨by omega, by omega⟩
      rw [getI_nat] at HGq
      have HGQ := Hid.mk HGq
      have hw1 : IntKind.i64.wrap ((q : Int) + 1) = (q : Int) + 1 := by rw [IntKind.wrap_i64]; omega
      have hcl := cntN_le xs q
      have hs := cntN_succ xs q
      obtain ⟨C, hC⟩ : ∃ C, C = cntN xs q := ⟨_, rfl⟩
      rw [← hC] at hcl hs ⊢
      have hw2 : IntKind.i64.wrap ((C : Int) + 1) = (C : Int) + 1 := by rw [IntKind.wrap_i64]; omega
      clear HGq hC HG
      cases hg : getN xs q with
      | true =>
        rw [hg] at hs HGQ
        simp at hs
        have HS := Hid.mk hs
        clear hs hg
        go_wp2_with (first | (go_at_call 19; refine HB.out.mono ?_; rintro e w' ⟨rfl, rfl⟩) | (go_at_call 12; refine HGQ.out.mono ?_; rintro e w' ⟨rfl, rfl⟩))
        go_round
        case rel => exact ⟨q + 1, by omega, by go_num, by rw [HS.out]; go_num⟩
        case measure => (simp [intOf]; omega)
      | false =>
        rw [hg] at hs HGQ
        simp at hs
        have HS := Hid.mk hs
        clear hs hg
        go_wp2_with (first | (go_at_call 19; refine HB.out.mono ?_; rintro e w' ⟨rfl, rfl⟩) | (go_at_call 12; refine HGQ.out.mono ?_; rintro e w' ⟨rfl, rfl⟩))
        go_round
        case rel => exact ⟨q + 1, by omega, by go_num, by rw [HS.out]⟩
        case measure => (simp [intOf]; omega)
    · obtain rfl : q = E := by omega
      go_wp2_with (go_at_call 19; refine HB.out.mono ?_; rintro e w' ⟨rfl, rfl⟩)
      go_ret
      exact ⟨rfl, rfl⟩

theorem fstN_end (xs : List Int) (E q : Nat) (h : E ≤ q) : fstN xs E q = none := by
  unfold fstN
  rw [show E - q = 0 from by omega]
  rfl
theorem fstN_step (xs : List Int) (E q : Nat) (h : q < E) : fstN xs E q = if getN xs q = true then fstN xs E (q + 1) else some q := by
  unfold fstN
  rw [show E - q = (E - (q + 1)) + 1 from by omega, List.range'_succ, List.find?_cons]
  cases getN xs q <;> simp

set_option maxHeartbeats 1000000 in
theorem reffirst_any (w : World) (ao : Option Addr) (l c : Nat) (xs : List Int) (h : BAt w ao l xs) (hx : ∀ x ∈ xs, 0 ≤ x ∧ x ≤ 255) (hbig : l ≤ 140737488355328) (n f : Int) (hn : I64 n) (hf : I64 f) :
    Calls Try.prog 10 #[.slice ao l c, .int .i64 n, .int .i64 f] w fun e w' => e = .returned (fstV (fstN xs (bndI xs n) (bFrom f))) ∧ w' = w := by
  have HB := Hid.mk (bound_any w ao l c xs h.1 hbig n hn)
  have HG := Hid.mk (fun i hi => refget_any w ao l c xs h hx i hi)
  obtain ⟨hn1, hn2⟩ := hn
  obtain ⟨hf1, hf2⟩ := hf
  have hlen := h.1
  have hE : bndI xs n = min n.toNat (8 * l) := by unfold bndI; rw [hlen]
  obtain ⟨E, hEe⟩ : ∃ E, E = bndI xs n := ⟨_, rfl⟩
  rw [← hEe] at hE ⊢
  obtain ⟨F, hFe⟩ : ∃ F, F = bFrom f := ⟨_, rfl⟩
  have hF : F = f.toNat := hFe
  rw [← hFe]
  obtain ⟨R, hR⟩ : ∃ R, R = fstN xs E F := ⟨_, rfl⟩
  rw [← hR]
  obtain ⟨B, hB⟩ : ∃ B, B = min n (8 * (l : Int)) := ⟨_, rfl⟩
  rw [← hB] at HB
  have hlt : ∀ q : Nat, q < E → (q : Int) < B := fun q hq => by omega
  have hge : ∀ q : Nat, E ≤ q → B ≤ (q : Int) := fun q hq => by omega
  have hEl : E ≤ 8 * l := by omega
  have HL := Hid.mk hlt
  have HGE := Hid.mk hge
  have HR := Hid.mk hR
  clear h hx hEe hlen hB hE hn1 hn2 hlt hge hR hFe
  have hFb : (F : Int) ≤ 9223372036854775807 := by omega
  have start : ∃ q : Nat, (q : Int) ≤ 9223372036854775807 ∧ Value.int .i64 (F : Int) = .int .i64 (q : Int) ∧ Hid (fstN xs E q = R) := ⟨F, hFb, rfl, HR.out.symm⟩
  by_cases hf0 : f < 0
  · obtain rfl : F = 0 := by omega
    clear hf1 hf2 hF
    go_enter Try.func10, Try.ntmps10
    go_wp2
    go_loop [8] (fun i => ∃ q : Nat, (q : Int) ≤ 9223372036854775807 ∧ i = .int .i64 (q : Int) ∧ Hid (fstN xs E q = R)) (fun i => E - (intOf i).toNat)
    case atStart => exact start
    case round =>
      obtain ⟨q, hq, rfl, hr⟩ := hrel
      clear start
      by_cases hqE : q < E
      · have hqB := HL.out q hqE
        have HGq := HG.out (q : Int) ⟨by omega, by omega⟩
        rw [getI_nat] at HGq
        have HGQ := Hid.mk HGq
        have hw1 : IntKind.i64.wrap ((q : Int) + 1) = (q : Int) + 1 := by rw [IntKind.wrap_i64]; omega
        have hs := fstN_step xs E q hqE
        clear HGq HG
        cases hg : getN xs q with
        | true =>
          rw [hg] at hs HGQ
          simp at hs
          have HS := Hid.mk hs
          clear hs hg
          go_wp2_with (first | (go_at_call 19; refine HB.out.mono ?_; rintro e w' ⟨rfl, rfl⟩) | (go_at_call 12; refine HGQ.out.mono ?_; rintro e w' ⟨rfl, rfl⟩))
          go_round
          case rel => exact ⟨q + 1, by omega, by go_num, Hid.mk (HS.out.symm.trans hr.out)⟩
          case measure => (simp [intOf]; omega)
        | false =>
          rw [hg] at hs HGQ
          simp at hs
          have e : R = some q := hr.out.symm.trans hs
          subst e
          clear hs hg
          go_wp2_with (first | (go_at_call 19; refine HB.out.mono ?_; rintro e w' ⟨rfl, rfl⟩) | (go_at_call 12; refine HGQ.out.mono ?_; rintro e w' ⟨rfl, rfl⟩))
          go_ret2
          exact ⟨rfl, rfl⟩
      · have e : R = none := hr.out.symm.trans (fstN_end xs E q (by omega))
        have hge2 := HGE.out q (by omega)
        subst e
        go_wp2_with (go_at_call 19; refine HB.out.mono ?_; rintro e w' ⟨rfl, rfl⟩)
        go_ret2
        exact ⟨rfl, rfl⟩
  · obtain rfl : f = (F : Int) := by omega
    clear hf1 hf2 hF hf0
    go_enter Try.func10, Try.ntmps10
    go_wp2
    go_loop [8] (fun i => ∃ q : Nat, (q : Int) ≤ 9223372036854775807 ∧ i = .int .i64 (q : Int) ∧ Hid (fstN xs E q = R)) (fun i => E - (intOf i).toNat)
    case atStart => exact start
    case round =>
      obtain ⟨q, hq, rfl, hr⟩ := hrel
      clear start
      by_cases hqE : q < E
      · have hqB := HL.out q hqE
        have HGq := HG.out (q : Int) ⟨by omega, by omega⟩
        rw [getI_nat] at HGq
        have HGQ := Hid.mk HGq
        have hw1 : IntKind.i64.wrap ((q : Int) + 1) = (q : Int) + 1 := by rw [IntKind.wrap_i64]; omega
        have hs := fstN_step xs E q hqE
        clear HGq HG
        cases hg : getN xs q with
        | true =>
          rw [hg] at hs HGQ
          simp at hs
          have HS := Hid.mk hs
          clear hs hg
          go_wp2_with (first | (go_at_call 19; refine HB.out.mono ?_; rintro e w' ⟨rfl, rfl⟩) | (go_at_call 12; refine HGQ.out.mono ?_; rintro e w' ⟨rfl, rfl⟩))
          go_round
          case rel => exact ⟨q + 1, by omega, by go_num, Hid.mk (HS.out.symm.trans hr.out)⟩
          case measure => (simp [intOf]; omega)
        | false =>
          rw [hg] at hs HGQ
          simp at hs
          have e : R = some q := hr.out.symm.trans hs
          subst e
          clear hs hg
          go_wp2_with (first | (go_at_call 19; refine HB.out.mono ?_; rintro e w' ⟨rfl, rfl⟩) | (go_at_call 12; refine HGQ.out.mono ?_; rintro e w' ⟨rfl, rfl⟩))
          go_ret2
          exact ⟨rfl, rfl⟩
      · have e : R = none := hr.out.symm.trans (fstN_end xs E q (by omega))
        have hge2 := HGE.out q (by omega)
        subst e
        go_wp2_with (go_at_call 19; refine HB.out.mono ?_; rintro e w' ⟨rfl, rfl⟩)
        go_ret2
        exact ⟨rfl, rfl⟩
end Go.Proofs.Ytpcafjaajklkoaa
