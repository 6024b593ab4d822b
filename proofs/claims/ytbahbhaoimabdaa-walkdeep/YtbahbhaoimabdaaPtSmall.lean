/-
  What the small functions do: Clone, mayBe, Index of a slash, Cut, parts, Join.
-/
import Derived.Test.YtbahbhaoimabdaaPtRows
namespace Go.Proofs.Ytbahbhaoimabdaa
open Go Go.Proofs Go.RowKit Go.Shelf
theorem below_drewN (w : World) (n : Nat) : Below w.heap.size w (w.drewN n) := ⟨rfl, rfl, rfl, Nat.le_refl _, fun _ _ => rfl⟩
theorem below_drewN' (w : World) (n B : Nat) (h : B ≤ w.heap.size) : Below B w (w.drewN n) := (below_drewN w n).mono h
def slashS : ByteArray := ⟨#[47]⟩
theorem clone_any (w : World) (s : ByteArray) (hs : s.size ≤ 281474976710656) : Calls Try.prog 35 #[.string s] w fun e w' => e = .returned (.string s) ∧ Below w.heap.size w w' := by
  have HC := Hid.mk (fun W => stringslite_Clone s W hs)
  go_enter Try.func35, Try.ntmps35
  go_wp2_with (go_at_call 55; refine (HC.out _).mono ?_; rintro e w' ⟨rfl, hw⟩; have HW := Hid.mk hw; clear hw)
  go_ret
  exact ⟨rfl, HW.out⟩
theorem beq_dec (a b : List UInt8) : (a == b) = decide (a = b) := by by_cases h : a = b <;> simp [h]
theorem dec_str (s : ByteArray) (l : List UInt8) : decide (s = mkS l) = decide (ofS s = l) := by
  congr 1
  rw [eq_iff_iff]
  exact ⟨fun h => by rw [h, of_mk], fun h => by rw [← h, mk_of]⟩
set_option maxHeartbeats 1000000 in
theorem maybe_any (w : World) (p : List UInt8) (hs : p.length ≤ 1000) : Calls Try.prog 34 #[strV p] w fun e w' => e = .returned (.bool (mayB p)) ∧ w' = w := by
  have HN := Hid.mk (fun W => name_any W (mkS p) (by rw [mkS_size]; exact hs))
  have HM : Hid (mayB p = (nameB (nm (mkS p)) && (!decide (p = [46]) && !decide (p = [46, 46])))) := Hid.mk rfl
  have h1 : ((mkS p).toList == [46]) = decide (p = [46]) := by rw [ByteArray.toList_eq, beq_dec]; exact decide_eq_decide.2 (by simp [mkS])
  have h2 : ((mkS p).toList == [46, 46]) = decide (p = [46, 46]) := by rw [ByteArray.toList_eq, beq_dec]; exact decide_eq_decide.2 (by simp [mkS])
  unfold strV
  generalize mayB p = r at *
  generalize nameB (nm (mkS p)) = n at *
  generalize decide (p = [46]) = d1 at *
  generalize decide (p = [46, 46]) = d2 at *
  go_enter Try.func34, Try.ntmps34
  cases n <;> cases d1 <;> cases d2 <;>
  (go_wp2_with (go_at_call 54; refine (HN.out _).mono ?_; rintro e w' ⟨rfl, hw⟩; subst w')
   go_ret
   exact ⟨by rw [HM.out]; rfl, rfl⟩)
set_option maxHeartbeats 1000000 in
theorem index_any (w : World) (s : ByteArray) : Calls Try.prog 61 #[.string s, .string slashS] w fun e w' => e = .returned (.int .i64 (Lib.indexByte (ofS s) 47)) ∧ w' = w := by
  have HI := Hid.mk (fun W => idx33_any W s 47)
  rw [show ((47 : Int).toNat.toUInt8) = (47 : UInt8) from by decide] at HI
  have HE : Hid (s.data.toList = ofS s) := Hid.mk rfl
  have h1 : ([(47 : UInt8)] == s.toList) = decide (ofS s = [47]) := by rw [ByteArray.toList_eq, beq_dec]; exact decide_eq_decide.2 eq_comm
  unfold slashS
  by_cases h : ofS s = [47]
  · rw [decide_eq_true h] at h1
    have HR : Hid (Lib.indexByte (ofS s) 47 = 0) := Hid.mk (by rw [h]; rfl)
    clear h
    go_enter Try.func61, Try.ntmps61
    go_wp2
    go_ret
    exact ⟨by rw [HR.out]; rfl, rfl⟩
  · rw [decide_eq_false h] at h1
    clear h
    go_enter Try.func61, Try.ntmps61
    go_wp2_with (go_at_call 62; refine (HI.out _).mono ?_; rintro e w' ⟨rfl, hw⟩; subst w')
    go_ret
    exact ⟨rfl, rfl⟩
set_option maxHeartbeats 1000000 in
theorem cut28_any (w : World) (s : ByteArray) (hs : s.size ≤ 16777216) : Calls Try.prog 58 #[.string s, .string slashS] w fun e w' => e = .returned (.tuple #[strV (cutA (ofS s)), strV (cutB (ofS s)), .bool (decide ((47 : UInt8) ∈ ofS s))]) ∧ Below w.heap.size w w' := by
  have HI := Hid.mk (fun W => index_any W s)
  have HS := Hid.mk (ofS_length s)
  have HM := Hid.mk (mk_of s)
  rcases idx_cut (ofS s) with ⟨h1, h2⟩ | ⟨h1, i, h2, h3, h4, h5⟩
  · rw [h2] at HI
    obtain ⟨e1, e2⟩ := cut_no h1
    have HA : Hid (strV (cutA (ofS s)) = .string s) := Hid.mk (by rw [e1]; unfold strV; rw [mk_of])
    have HB : Hid (strV (cutB (ofS s)) = .string ⟨#[]⟩) := Hid.mk (by rw [e2]; rfl)
    have HD : Hid (decide ((47 : UInt8) ∈ ofS s) = false) := Hid.mk (decide_eq_false h1)
    clear h1 h2 e1 e2
    unfold slashS at *
    go_enter Try.func58, Try.ntmps58
    go_wp2_with (go_at_call 61; refine (HI.out _).mono ?_; rintro e w' ⟨rfl, hw⟩; subst w')
    go_ret3
    exact ⟨by rw [HA.out, HB.out, HD.out]; rfl, Below.refl _ _⟩
  · rw [h2] at HI
    have h6 : i < s.size := by rw [← HS.out]; exact h3
    have HA : Hid (s.extract 0 i = mkS (cutA (ofS s))) := Hid.mk (by rw [h4, ← HM.out, mkS_extract, of_mk]; simp)
    have HB : Hid (s.extract (i + 1) s.size = mkS (cutB (ofS s))) := Hid.mk (by
      have e := mkS_extract (ofS s) (i + 1) s.size
      rw [HM.out] at e
      rw [e, h5, List.take_of_length_le (by rw [HS.out]; exact Nat.le_refl _)])
    have HD : Hid (decide ((47 : UInt8) ∈ ofS s) = true) := Hid.mk (decide_eq_true h1)
    have hi1 : (i : Int) ≤ s.size := by omega
    have hi2 : (i : Int) + 1 ≤ s.size := by omega
    have hw1 : IntKind.i64.wrap ((i : Int) + 1) = (i : Int) + 1 := by rw [IntKind.wrap_i64]; omega
    have hi3 : ((i : Int) + 1).toNat = i + 1 := by omega
    clear h1 h2 h3 h4 h5
    unfold slashS at *
    go_enter Try.func58, Try.ntmps58
    go_wp2_with (go_at_call 61; refine (HI.out _).mono ?_; rintro e w' ⟨rfl, hw⟩; subst w')
    go_quiet (fail)
    go_wp2
    go_ret3
    refine ⟨?_, ?_⟩
    · rw [HD.out]
      unfold strV
      rw [← HA.out, ← HB.out]
      rfl
    · exact below_drewN _ _
theorem cut_any (w : World) (s : ByteArray) (hs : s.size ≤ 16777216) : Calls Try.prog 53 #[.string s, .string slashS] w fun e w' => e = .returned (.tuple #[strV (cutA (ofS s)), strV (cutB (ofS s)), .bool (decide ((47 : UInt8) ∈ ofS s))]) ∧ Below w.heap.size w w' := by
  have HC := Hid.mk (fun W => cut28_any W s hs)
  unfold slashS at *
  unfold strV at *
  generalize decide ((47 : UInt8) ∈ ofS s) = m at *
  generalize mkS (cutA (ofS s)) = x at *
  generalize mkS (cutB (ofS s)) = y at *
  go_enter Try.func53, Try.ntmps53
  go_wp2_with (go_at_call 58; refine (HC.out _).mono ?_; rintro e w' ⟨rfl, hw⟩; have HW := Hid.mk hw; clear hw)
  go_ret3
  exact ⟨rfl, HW.out⟩
theorem pparts_any (w : World) (s : ByteArray) :
    Calls Try.prog 33 #[.string s] w fun e w' => e = .returned (.func (.func 52) #[] #[.pointer (some ⟨w.heap.size, 0, none⟩)]) ∧ w' = w.alloc (.cells #[.string s] 9) := by
  go_enter Try.func33, Try.ntmps33
  go_wp2
  go_ret
  exact ⟨rfl, rfl⟩
end Go.Proofs.Ytbahbhaoimabdaa
