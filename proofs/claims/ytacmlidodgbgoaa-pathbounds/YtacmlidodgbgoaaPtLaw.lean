/-
  same, num and alive of the statements; Join of the reference.
-/
import Derived.Test.YtacmlidodgbgoaaPtRef2
namespace Go.Proofs.Ytacmlidodgbgoaa
open Go Go.Proofs Go.RowKit Go.Shelf

theorem num_any (w : World) (e : Int) : Calls Try.prog 10 #[.int .i64 e] w fun x w' => x = .returned (.int .i64 e) ∧ w' = w := by
  go_enter Try.func10, Try.ntmps10
  go_wp2
  go_ret
  exact ⟨rfl, rfl⟩

theorem sameB (p q : List UInt8) : ((mkS p).toList == (mkS q).toList) = decide (p = q) := by
  rw [strB]
  congr 1
  rw [eq_iff_iff, ByteArray.toList_eq]
  simp [mkS]

set_option maxHeartbeats 1000000 in
theorem same_any (w : World) (a b : Option Addr) (n m c d : Nat) (L M : List (List UInt8)) (hL : SAt w a n L) (hM : SAt w b m M) (hn : n ≤ 16777216) (hm : m ≤ 16777216) :
    Calls Try.prog 11 #[.slice a n c, .slice b m d] w fun e w' => e = .returned (.bool (decide (L = M))) ∧ Below w.heap.size w w' := by
  by_cases hnm : n = m
  · subst hnm
    have HBW : Hid (∀ wr, Below w.heap.size w wr → SAt wr a n L ∧ SAt wr b n M) := Hid.mk (fun wr h => ⟨hL.below h, hM.below h⟩)
    have HLL := Hid.mk hL.1
    have HML := Hid.mk hM.1
    clear hL hM
    go_enter Try.func11, Try.ntmps11
    go_wp2
    go_loopw [5] (fun i wr => ∃ k : Nat, i = .int .i64 k ∧ k ≤ n ∧ Hid (∀ j, j < k → L.getD j [] = M.getD j []) ∧ Hid (Below w.heap.size w wr)) (fun i _ => n - (intOf i).toNat)
    case atStart => exact ⟨0, rfl, Nat.zero_le _, Hid.mk (fun j hj => by omega), Hid.mk (Below.refl _ _)⟩
    case round =>
      obtain ⟨k, rfl, hk, HA, HB⟩ := hrel
      obtain ⟨h1, h2⟩ := HBW.out wr HB.out
      have hw1 : IntKind.i64.wrap ((k : Int) + 1) = (k : Int) + 1 := by rw [IntKind.wrap_i64]; omega
      by_cases hlt : k < n
      · have hi : (k : Int) < n := by omega
        obtain ⟨a', rfl, c1⟩ := h1.at k hlt
        obtain ⟨b', rfl, c2⟩ := h2.at k hlt
        have HE := Hid.mk (sameB (L.getD k []) (M.getD k []))
        have hsb := sameB (L.getD k []) (M.getD k [])
        unfold strV at c1 c2
        clear h1 h2
        by_cases he : L.getD k [] = M.getD k []
        · rw [decide_eq_true he] at hsb
          have HA2 : Hid (∀ j, j < k + 1 → L.getD j [] = M.getD j []) := Hid.mk (fun j hj => by
            rcases Nat.lt_or_ge j k with h | h
            · exact HA.out j h
            · obtain rfl : j = k := by omega
              exact he)
          generalize mkS (L.getD k []) = x at *
          generalize mkS (M.getD k []) = y at *
          clear he HE
          go_wp2
          go_quiet (fail)
          go_wp2
          go_roundw
          case rel => exact ⟨k + 1, by go_num, by omega, HA2, Hid.mk (HB.out.trans (below_drewN' _ _ _ HB.out.size))⟩
          case measure => simp [intOf]; omega
        · rw [decide_eq_false he] at hsb
          have HD : Hid (decide (L = M) = false) := Hid.mk (decide_eq_false (fun e => he (by rw [e])))
          generalize mkS (L.getD k []) = x at *
          generalize mkS (M.getD k []) = y at *
          clear he HE
          go_wp2
          go_quiet (fail)
          go_wp2
          go_ret
          exact ⟨by rw [HD.out]; rfl, HB.out.trans (below_drewN' _ _ _ HB.out.size)⟩
      · have hi : ¬ (k : Int) < n := by omega
        have hi2 : (n : Int) ≤ k := by omega
        obtain rfl : k = n := by omega
        have HD : Hid (decide (L = M) = true) := Hid.mk (decide_eq_true (by
          apply List.ext_getElem
          · rw [HLL.out, HML.out]
          · intro i h1 h2
            have := HA.out i (by rw [← HLL.out]; exact h1)
            simpa [List.getD, List.getElem?_eq_getElem h1, List.getElem?_eq_getElem h2] using this))
        clear h1 h2
        go_wp2
        go_ret
        exact ⟨by rw [HD.out]; rfl, HB.out⟩
  · have HD : Hid (decide (L = M) = false) := Hid.mk (decide_eq_false (fun e => hnm (by rw [← hL.1, ← hM.1, e])))
    have h1 : ((n : Int) == m) = false := by simp; omega
    have h2 : ¬ (n : Int) = m := by omega
    clear hL hM
    go_enter Try.func11, Try.ntmps11
    go_wp2
    go_ret
    exact ⟨by rw [HD.out]; rfl, Below.refl _ _⟩

/-- Each part behind a slash. -/
def catP (L : List (List UInt8)) : List UInt8 := L.flatMap (fun p => 47 :: p)
theorem catP_snoc (L : List (List UInt8)) (p : List UInt8) : catP (L ++ [p]) = (catP L ++ [47]) ++ p := by simp [catP]
theorem catP_join (L : List (List UInt8)) (h : L ≠ []) : catP L = joinP L := by
  induction L with
  | nil => exact absurd rfl h
  | cons a L ih =>
    cases L with
    | nil => simp [catP, joinP, joinS_one]
    | cons b L =>
      have := ih (by simp)
      unfold joinP at this ⊢
      rw [joinS_cons, ← this]
      simp [catP]
theorem catP_le (L : List (List UInt8)) (k : Nat) : (catP (L.take k)).length ≤ (catP L).length := by
  conv => rhs; rw [← List.take_append_drop k L]
  unfold catP
  rw [List.flatMap_append, List.length_append]
  omega
theorem take_snoc (L : List (List UInt8)) (k : Nat) (h : k < L.length) : L.take (k + 1) = L.take k ++ [L.getD k []] := by
  rw [List.take_add_one, List.getElem?_eq_getElem h]
  simp [List.getD, List.getElem?_eq_getElem h]

set_option maxHeartbeats 1000000 in
theorem rjoin_any (w : World) (ao : Option Addr) (n c : Nat) (L : List (List UInt8)) (h : SAt w ao n L) (hn : n ≤ 16777216) (hl : (catP L).length ≤ 16777216) :
    Calls Try.prog 13 #[.slice ao n c] w fun e w' => e = .returned (strV (joinP L)) ∧ w' = w := by
  have HLL := Hid.mk h.1
  have HST : Hid (∀ k, k < L.length → (mkS (catP (L.take k)) ++ ⟨#[47]⟩) ++ mkS (L.getD k []) = mkS (catP (L.take (k + 1)))) := Hid.mk (fun k hk => by
    rw [take_snoc L k hk, catP_snoc, show (⟨#[47]⟩ : ByteArray) = mkS [47] from rfl, mkS_append, mkS_append])
  have HSZ : Hid (∀ k, (mkS (catP (L.take k))).size ≤ 16777216) := Hid.mk (fun k => by rw [mkS_size]; exact Nat.le_trans (catP_le L k) hl)
  go_enter Try.func13, Try.ntmps13
  go_wp2
  go_loopw [3, 4] (fun x i wr => ∃ k : Nat, x = .string (mkS (catP (L.take k))) ∧ i = .int .i64 k ∧ k ≤ n ∧ wr = w) (fun _ i _ => n - (intOf i).toNat)
  case atStart => exact ⟨0, rfl, rfl, Nat.zero_le _, rfl⟩
  case round =>
    obtain ⟨k, rfl, rfl, hk, rfl⟩ := hrel
    have hw1 : IntKind.i64.wrap ((k : Int) + 1) = (k : Int) + 1 := by rw [IntKind.wrap_i64]; omega
    by_cases hlt : k < n
    · have hi : (k : Int) < n := by omega
      obtain ⟨a', rfl, c1⟩ := h.at k hlt
      have hst := HST.out k (by rw [HLL.out]; exact hlt)
      have s1 := HSZ.out k
      have s2 := HSZ.out (k + 1)
      have HS2 := Hid.mk hst
      rw [← hst, ByteArray.size_append, ByteArray.size_append, show (ByteArray.mk #[47]).size = 1 from rfl] at s2
      unfold strV at c1
      clear hst
      have s3 : ¬ 9223372036854775807 < (mkS (catP (L.take k))).size + 1 + (mkS (L.getD k [])).size := by omega
      clear s2
      generalize mkS (catP (L.take k)) = x at *
      generalize mkS (L.getD k []) = y at *
      go_wp2
      go_roundw
      case rel => exact ⟨k + 1, by rw [← HS2.out], by go_num, by omega, trivial⟩
      case measure => simp [intOf]; omega
    · have hi : ¬ (k : Int) < n := by omega
      have hi2 : (n : Int) ≤ k := by omega
      obtain rfl : k = n := by omega
      rw [show L.take k = L from List.take_of_length_le (by rw [HLL.out]; exact Nat.le_refl _)]
      by_cases h0 : L = []
      · subst h0
        have hem : (mkS (catP [])).toList.isEmpty = true := by rw [ByteArray.toList_eq]; rfl
        go_wp2
        go_ret
        exact ⟨rfl, rfl⟩
      · have hem : (mkS (catP L)).toList.isEmpty = false := by
          rw [ByteArray.toList_eq, catP_join L h0]; rfl
        have HJ : Hid (mkS (catP L) = mkS (joinP L)) := Hid.mk (by rw [catP_join L h0])
        generalize mkS (catP L) = x at *
        go_wp2
        go_ret
        exact ⟨by unfold strV; rw [← HJ.out]; rfl, rfl⟩

theorem alive_split : splitL [47, 97, 47, 98] = some [[97], [98]] := by decide

set_option maxHeartbeats 1000000 in
theorem alive_any (w : World) : Calls Try.prog 7 #[] w fun e w' => e = .returned (.bool true) ∧ Below w.heap.size w w' := by
  have HS : Hid (Calls Try.prog 8 #[.string ⟨#[47, 97, 47, 98]⟩] w fun e w' => ∃ b o c, e = .returned (.tuple #[.slice (some ⟨b, o, none⟩) 2 c, .int .i64 0]) ∧ w'.cell? ⟨b, o, none⟩ = some (.string ⟨#[97]⟩) ∧ w'.cell? ⟨b, o + 1, none⟩ = some (.string ⟨#[98]⟩) ∧ Hid (Below w.heap.size w w') ∧ 2 ≤ c) := Hid.mk (by
    refine (split_any w ⟨#[47, 97, 47, 98]⟩ (by decide)).mono ?_
    rw [show ofS (⟨#[47, 97, 47, 98]⟩ : ByteArray) = [47, 97, 47, 98] from rfl, alive_split]
    rintro e w' ⟨v, rfl, hO, hB⟩
    obtain ⟨ao, c, rfl, hS, -, hc, -⟩ := owns_SAt hO
    obtain ⟨b, o, rfl, -, hcell⟩ := hS.place (by decide)
    exact ⟨b, o, c, rfl, hcell 0 (by decide), hcell 1 (by decide), Hid.mk hB, hc⟩)
  go_enter Try.func7, Try.ntmps7
  go_wp2_with (first
    | (go_at_call 8; refine HS.out.mono ?_; rintro e w' ⟨b, o, c, rfl, c0, c1, HB, hc⟩)
    | (go_at_call 10; refine (num_any _ _).mono ?_; rintro e w'' ⟨rfl, hw⟩; subst w''))
  go_ret
  exact ⟨rfl, HB.out⟩
end Go.Proofs.Ytacmlidodgbgoaa
