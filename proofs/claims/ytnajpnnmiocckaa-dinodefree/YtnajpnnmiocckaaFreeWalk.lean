/-
  DinodeFree: a free inode has nothing else.
-/
import Derived.Test.YtnajpnnmiocckaaAlive
namespace Go.Proofs.Ytnajpnnmiocckaa
open Go Go.Proofs Go.RowKit Go.Shelf

theorem zeros_getD (n q : Nat) : (zeros n).getD q 0 = 0 := by
  simp only [zeros, List.getD, List.getElem?_replicate]
  split <;> rfl
theorem zeros_set (n q : Nat) : (zeros n).set q 0 = zeros n := by
  unfold zeros
  exact List.set_replicate_self
theorem ofB_kind (xs : List Int) (h : xs.length = 64) : (ofB xs).getD 0 0 = numL (xs.take 2) := by
  have h0 := allL_get 2 (xs.take 4) 0 (by simp [h])
  have e : (ofB xs).getD 0 0 = (allL 2 (xs.take 4)).getD 0 0 := by
    unfold ofB
    simp [List.getD, List.getElem?_append_left (show 0 < (allL 2 (xs.take 4)).length by simp [allL_length, h])]
  rw [e, h0]
  simp [List.take_take]
theorem free_is {l : List Int} (hf : fineL l = true) (h0 : l.getD 0 0 = 0) : l = zeros 13 := by
  unfold fineL at hf
  simp only [Bool.and_eq_true] at hf
  have h := hf.2.2.2
  rw [h0] at h
  simpa [eqB] using h
theorem turned_reads (q : Nat) (v : Int) (h2 : 2 ≤ q) (h63 : q < 64) (hv : v ≠ 0) : rdB ((zeros 64).set q v) = false := by
  cases h : rdB ((zeros 64).set q v) with
  | false => rfl
  | true =>
    exfalso
    have hlen : ((zeros 64).set q v).length = 64 := by rw [List.length_set, zeros_length]
    unfold rdB at h
    simp only [Bool.and_eq_true, eqB, decide_eq_true_eq] at h
    have hk : (ofB ((zeros 64).set q v)).getD 0 0 = 0 := by
      rw [ofB_kind _ hlen, List.take_set, List.set_eq_of_length_le (by simp; omega)]
      decide
    have hz := free_is h.2.1 hk
    have he := h.2.2
    rw [hz] at he
    have e0 : inoL (zeros 13) = zeros 64 := by decide +kernel
    rw [e0] at he
    have h1 : ((zeros 64).set q v).getD q 0 = v := by
      simp only [List.getD]
      rw [List.getElem?_set_self (by rw [zeros_length]; omega)]
      rfl
    rw [he, zeros_getD] at h1
    exact hv h1.symm

theorem free_out (w : World) (i v : Int) (h : i < 2 ∨ 63 < i) :
    Calls Try.prog 7 #[.int .i64 i, .int .u8 v] w fun e w' => e = .returned (.bool true) ∧ Below w.heap.size w w' := by
  rcases h with h | h
  · go_enter Try.func7, Try.ntmps7
    go_wp2_with (go_at_call 8; refine (alive_any _).mono ?_; rintro e w1 ⟨rfl, hB⟩; have HB := Hid.mk hB; clear hB)
    go_ret
    exact ⟨rfl, HB.out⟩
  · have h2 : ¬ (i < 2) := by omega
    go_enter Try.func7, Try.ntmps7
    go_wp2_with (go_at_call 8; refine (alive_any _).mono ?_; rintro e w1 ⟨rfl, hB⟩; have HB := Hid.mk hB; clear hB)
    go_ret
    exact ⟨rfl, HB.out⟩

/-- What lies in memory once the row is made and its byte is stored. -/
theorem free1 (W : World) (q : Nat) (hq : q < 64) (v : Int) (hv : 0 ≤ v ∧ v ≤ 255) (E : Int) (hE : rdE ((zeros 64).set q v) = E) (hL : rdL ((zeros 64).set q v) = zeros 13) : ∃ W1, (Instr.makeSlice 26 (.int .i64 64) (.int .i64 64)).run Try.prog W = .ok (.slice (some ⟨W.heap.size, 0, none⟩) 64 64) W1 ∧ (W1.cell? ⟨W.heap.size, q, none⟩ = some (.int .u8 0) ∧ W1.frozen? ⟨W.heap.size, q, none⟩ = false) ∧
    Below W.heap.size W (W1.setCell ⟨W.heap.size, q, none⟩ (.int .u8 v)) ∧ Calls Try.prog 12 #[.slice (some ⟨W.heap.size, 0, none⟩) 64 64] (W1.setCell ⟨W.heap.size, q, none⟩ (.int .u8 v)) fun e w' => e = .returned (.tuple #[inoV (zeros 13), .int .i64 E]) ∧ Below W.heap.size W w' := by
  refine ⟨_, make_run W 64 (by omega), ?_, ?_, ?_⟩
  · have hr : RAt (W.alloc (.cells (By (zeros 64)).toArray 5)) W.heap.size (zeros 64) := blk_new W _
    have h := hr.cell q (by rw [zeros_length]; exact hq)
    rwa [zeros_getD] at h
  · exact ((Below.refl _ W).alloc (Nat.le_refl _) _).setCell (Nat.le_refl _) _
  · have hr : RAt (W.alloc (.cells (By (zeros 64)).toArray 5)) W.heap.size (zeros 64) := blk_new W _
    have hb : Below W.heap.size W ((W.alloc (.cells (By (zeros 64)).toArray 5)).setCell ⟨W.heap.size, q, none⟩ (.int .u8 v)) := ((Below.refl _ W).alloc (Nat.le_refl _) _).setCell (Nat.le_refl _) _
    have h := read_any _ (some ⟨W.heap.size, 0, none⟩) 64 64 _ ((hr.set q v).full (by rw [List.length_set, zeros_length])) (set_bound _ (zeros_bound 64) q v hv) (by omega) (by omega)
    rw [hE, hL] at h
    exact h.mono (fun e w' h => ⟨h.1, hb.trans (h.2.mono hb.size)⟩)

set_option maxRecDepth 100000 in
set_option maxHeartbeats 2000000 in
theorem free_in (w : World) (q : Nat) (v : Int) (h2 : 2 ≤ q) (h63 : q < 64) (hv : 0 ≤ v ∧ v ≤ 255) :
    Calls Try.prog 7 #[.int .i64 q, .int .u8 v] w fun e w' => e = .returned (.bool true) ∧ Below w.heap.size w w' := by
  have i1 : decide ((q : Int) < 2) = false := decide_eq_false (by omega)
  have i2 : decide ((63 : Int) < q) = false := decide_eq_false (by omega)
  by_cases h0 : v = 0
  · subst h0
    have e0 : (zeros 64).set q 0 = zeros 64 := zeros_set 64 q
    have HF := Hid.mk (fun W => free1 W q h63 0 (by omega) 0 (by rw [e0]; exact free_reads.2.2) (by rw [e0]; exact free_reads.2.1))
    go_enter Try.func7, Try.ntmps7
    go_wp2_with (first
      | (go_at_call 8; refine (alive_any _).mono ?_; rintro e w1 ⟨rfl, hB⟩; obtain ⟨W1, hMK, ⟨hc, hf⟩, -, hC⟩ := HF.out w1; obtain ⟨g, hg⟩ : ∃ g, g = w1.heap.size := ⟨_, rfl⟩; rw [← hg] at hMK hc hf hC; have HMK := Hid.mk hMK; have HC := Hid.mk hC; have HB := Hid.mk hB; have HG := Hid.mk hg; clear hMK hC hB hg HF)
      | (at_make; refine wpList_make_known rfl _ _ 26 rfl _ _ _ _ rfl rfl HMK.out ?_)
      | (go_at_call 12; refine HC.out.mono ?_; rintro e W2 ⟨rfl, hB2⟩; obtain ⟨X, Y, d, hrX, hrY, hD, hBY, hd⟩ := var24 W2 (zeros 13) (zeros_length 13); have HRX := Hid.mk hrX; have HRY := Hid.mk hrY; have HD := Hid.mk hD; have HFIN := Hid.mk ((HB.out.trans (hB2.mono (by rw [HG.out]; exact HB.out.size))).trans (hBY.mono (Nat.le_trans HB.out.size hB2.size))); clear hrX hrY hD hBY hd hB2 HC)
      | (refine wpL_alloc rfl rfl _ X HRX.out ?_)
      | (refine wpL_store (.tmp 7) (.tmp 29) rfl rfl _ _ Y rfl rfl HRY.out ?_)
      | (go_at_call 11; refine (num_any _ _).mono ?_; rintro e w3 ⟨rfl, hw⟩; subst w3)
      | (refine wpL_load (.tmp 7) rfl rfl d (zeros 13) rfl HD.out (zeros_length 13) ?_)
      | (refine wpL_build rfl rfl ?_)
      | (refine wpL_eql (.tmp 38) (.tmp 39) 24 rfl rfl (zeros 13) (zeros 13) true (by simp [eqB]) rfl rfl (zeros_length 13) (zeros_length 13) ?_))
    go_ret
    exact ⟨rfl, HFIN.out⟩
  · have b0 : (v == 0) = false := by simp [h0]
    have HF := Hid.mk (fun W => free1 W q h63 v hv 5 (rd_no (turned_reads q v h2 h63 h0)).2 (rd_no (turned_reads q v h2 h63 h0)).1)
    go_enter Try.func7, Try.ntmps7
    go_wp2_with (first
      | (go_at_call 8; refine (alive_any _).mono ?_; rintro e w1 ⟨rfl, hB⟩; obtain ⟨W1, hMK, ⟨hc, hf⟩, -, hC⟩ := HF.out w1; obtain ⟨g, hg⟩ : ∃ g, g = w1.heap.size := ⟨_, rfl⟩; rw [← hg] at hMK hc hf hC; have HMK := Hid.mk hMK; have HC := Hid.mk hC; have HB := Hid.mk hB; have HG := Hid.mk hg; clear hMK hC hB hg HF)
      | (at_make; refine wpList_make_known rfl _ _ 26 rfl _ _ _ _ rfl rfl HMK.out ?_)
      | (go_at_call 12; refine HC.out.mono ?_; rintro e W2 ⟨rfl, hB2⟩; obtain ⟨X, Y, d, hrX, hrY, hD, hBY, hd⟩ := var24 W2 (zeros 13) (zeros_length 13); have HRX := Hid.mk hrX; have HRY := Hid.mk hrY; have HD := Hid.mk hD; have HFIN := Hid.mk ((HB.out.trans (hB2.mono (by rw [HG.out]; exact HB.out.size))).trans (hBY.mono (Nat.le_trans HB.out.size hB2.size))); clear hrX hrY hD hBY hd hB2 HC)
      | (refine wpL_alloc rfl rfl _ X HRX.out ?_)
      | (refine wpL_store (.tmp 7) (.tmp 29) rfl rfl _ _ Y rfl rfl HRY.out ?_)
      | (go_at_call 11; refine (num_any _ _).mono ?_; rintro e w3 ⟨rfl, hw⟩; subst w3)
      | (refine wpL_load (.tmp 7) rfl rfl d (zeros 13) rfl HD.out (zeros_length 13) ?_)
      | (refine wpL_build rfl rfl ?_)
      | (refine wpL_eql (.tmp 38) (.tmp 39) 24 rfl rfl (zeros 13) (zeros 13) true (by simp [eqB]) rfl rfl (zeros_length 13) (zeros_length 13) ?_))
    go_ret
    exact ⟨rfl, HFIN.out⟩

theorem free_any (w : World) (i v : Int) (hv : 0 ≤ v ∧ v ≤ 255) :
    Calls Try.prog 7 #[.int .i64 i, .int .u8 v] w fun e w' => e = .returned (.bool true) ∧ Below w.heap.size w w' := by
  by_cases h : i < 2 ∨ 63 < i
  · exact free_out w i v h
  · obtain ⟨q, rfl⟩ : ∃ q : Nat, i = q := ⟨i.toNat, by omega⟩
    exact free_in w q v (by omega) (by omega) hv
end Go.Proofs.Ytnajpnnmiocckaa
