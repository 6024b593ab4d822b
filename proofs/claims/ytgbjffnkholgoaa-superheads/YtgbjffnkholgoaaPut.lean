/-
  Numbers as bytes: width, sum and put of the program.
-/
import Derived.Test.YtgbjffnkholgoaaCalls
import Derived.Test.YtgbjffnkholgoaaGeo
namespace Go.Proofs.Ytgbjffnkholgoaa
open Go Go.Proofs Go.RowKit Go.Shelf

set_option maxHeartbeats 400000 in
theorem width32_any (w : World) : Calls Try.prog 21 #[] w fun e w' => e = .returned (.int .i64 4) ∧ w' = w := by
  go_enter Try.func21, Try.ntmps21
  go_wp2
  go_loop [1, 2] (fun s r => (s = .int .i64 0 ∧ r = .int .u32 4294967295) ∨ (s = .int .i64 1 ∧ r = .int .u32 16777215) ∨ (s = .int .i64 2 ∧ r = .int .u32 65535) ∨ (s = .int .i64 3 ∧ r = .int .u32 255) ∨ (s = .int .i64 4 ∧ r = .int .u32 0)) (fun s _ => 4 - (intOf s).toNat)
  case atStart => left; exact ⟨rfl, rfl⟩
  case round =>
    rcases hrel with ⟨rfl, rfl⟩ | ⟨rfl, rfl⟩ | ⟨rfl, rfl⟩ | ⟨rfl, rfl⟩ | ⟨rfl, rfl⟩
    · go_wp2
      go_round
      case rel => right; left; exact ⟨rfl, rfl⟩
      case measure => simp [intOf]
    · go_wp2
      go_round
      case rel => right; right; left; exact ⟨rfl, rfl⟩
      case measure => simp [intOf]
    · go_wp2
      go_round
      case rel => right; right; right; left; exact ⟨rfl, rfl⟩
      case measure => simp [intOf]
    · go_wp2
      go_round
      case rel => right; right; right; right; exact ⟨rfl, rfl⟩
      case measure => simp [intOf]
    · go_wp2
      go_ret
      exact ⟨rfl, rfl⟩

set_option maxHeartbeats 400000 in
theorem width16_any (w : World) : Calls Try.prog 36 #[] w fun e w' => e = .returned (.int .i64 2) ∧ w' = w := by
  go_enter Try.func36, Try.ntmps36
  go_wp2
  go_loop [1, 2] (fun s r => (s = .int .i64 0 ∧ r = .int .u16 65535) ∨ (s = .int .i64 1 ∧ r = .int .u16 255) ∨ (s = .int .i64 2 ∧ r = .int .u16 0)) (fun s _ => 2 - (intOf s).toNat)
  case atStart => left; exact ⟨rfl, rfl⟩
  case round =>
    rcases hrel with ⟨rfl, rfl⟩ | ⟨rfl, rfl⟩ | ⟨rfl, rfl⟩
    · go_wp2
      go_round
      case rel => right; left; exact ⟨rfl, rfl⟩
      case measure => simp [intOf]
    · go_wp2
      go_round
      case rel => right; right; exact ⟨rfl, rfl⟩
      case measure => simp [intOf]
    · go_wp2
      go_ret
      exact ⟨rfl, rfl⟩

/-- sum: the sum of a row. -/
def sumL : List Int → Int
  | [] => 0
  | x :: r => x + sumL r
theorem sumL_append (a b : List Int) : sumL (a ++ b) = sumL a + sumL b := by
  induction a with
  | nil => simp [sumL]
  | cons x r ih => simp [sumL, ih]; omega
theorem sumL_bound (xs : List Int) (h : ∀ x ∈ xs, 0 ≤ x ∧ x ≤ 255) : 0 ≤ sumL xs ∧ sumL xs ≤ 255 * xs.length := by
  induction xs with
  | nil => simp [sumL]
  | cons x r ih =>
    have h1 := h x (by simp)
    have h2 := ih (fun y hy => h y (by simp [hy]))
    simp [sumL]
    omega
theorem take_snoc (xs : List Int) (k : Nat) (h : k < xs.length) : xs.take (k + 1) = xs.take k ++ [xs.getD k 0] := by
  rw [List.take_succ_eq_append_getElem h]
  simp [List.getD, List.getElem?_eq_getElem h]
theorem sumL_take (xs : List Int) (k : Nat) (h : k < xs.length) : sumL (xs.take (k + 1)) = sumL (xs.take k) + xs.getD k 0 := by
  rw [take_snoc xs k h, sumL_append]
  simp [sumL]

set_option maxHeartbeats 400000 in
theorem sum_any (w : World) (a : Addr) (n c : Nat) (xs : List Int) (h : BAt w (some a) n xs) (hx : ∀ x ∈ xs, 0 ≤ x ∧ x ≤ 255) (hn : n ≤ 1024) :
    Calls Try.prog 20 #[.slice (some a) n c] w fun e w' => e = .returned (.int .i64 (sumL xs)) ∧ w' = w := by
  have HH := Hid.mk h
  have HX := Hid.mk hx
  have hl := h.1
  have HL := Hid.mk hl
  clear h hx hl
  go_enter Try.func20, Try.ntmps20
  go_wp2
  go_loop [3, 8] (fun s i => ∃ k : Nat, k ≤ n ∧ i = .int .i64 k ∧ s = .int .i64 (sumL (xs.take k))) (fun _ i => n - (intOf i).toNat)
  case atStart => exact ⟨0, by omega, rfl, rfl⟩
  case round =>
    obtain ⟨k, hk, rfl, rfl⟩ := hrel
    by_cases hlt : k < n
    · obtain ⟨a', e, hc⟩ := HH.out.at k hlt
      cases e
      have hs := sumL_take xs k (by rw [HL.out]; exact hlt)
      have hb := sumL_bound (xs.take k) (fun x hx => HX.out x (List.mem_of_mem_take hx))
      have hbb := getD_bound xs HX.out k
      have hlen : (xs.take k).length ≤ 1024 := by have := HL.out; simp; omega
      generalize xs.getD k 0 = x at *
      generalize sumL (xs.take k) = y at *
      have hwr : IntKind.i64.wrap (y + x) = y + x := by rw [IntKind.wrap_i64]; omega
      have HS := Hid.mk hs
      clear hlen hs
      go_wp2
      go_round
      case rel => exact ⟨k + 1, by omega, by go_num, by rw [HS.out]⟩
      case measure => simp [intOf]; omega
    · have hge : (n : Int) ≤ k := by omega
      go_wp2
      go_ret
      refine ⟨?_, rfl⟩
      rw [List.take_of_length_le (by rw [HL.out]; omega)]
      rfl

/-- A number in so many bytes, the lowest first. -/
def leL (n : Int) (k : Nat) : List Int := (List.range k).map (fun i => n / 256 ^ i % 256)
theorem leL_length (n : Int) (k : Nat) : (leL n k).length = k := by simp [leL]
theorem leL_succ (n : Int) (k : Nat) : leL n (k + 1) = leL n k ++ [n / 256 ^ k % 256] := by simp [leL, List.range_succ]
theorem leL_bound (n : Int) (k : Nat) : ∀ x ∈ leL n k, 0 ≤ x ∧ x ≤ 255 := by
  intro x hx
  obtain ⟨i, _, rfl⟩ := List.mem_map.1 hx
  omega
theorem splice_length {α : Type} (cur : List α) (o : Nat) (ys : List α) (h : o + ys.length ≤ cur.length) : (splice cur o ys).length = cur.length := by
  simp [splice]; omega
theorem splice_snoc (cur : List Int) (o : Nat) (ys : List Int) (y : Int) (h : o + ys.length < cur.length) : (splice cur o ys).set (o + ys.length) y = splice cur o (ys ++ [y]) := by
  unfold splice
  have h1 : (List.take o cur).length = o := by simp; omega
  rw [List.set_append_right _ _ (by simp; omega), h1, Nat.add_sub_cancel_left, List.set_append_right _ _ (by omega), Nat.sub_self, List.drop_eq_getElem_cons h]
  simp [Nat.add_assoc]
theorem By_setArr (xs : List Int) (i : Nat) (y : Int) : (By xs).toArray.setIfInBounds i (.int .u8 y) = (By (xs.set i y)).toArray := by
  simp [By]

set_option maxHeartbeats 1000000 in
theorem put32_any (w : World) (g o m c : Nat) (cur : List Int) (n : Int) (h : w.heap[g]? = some (.cells (By cur).toArray 5 (0, 0))) (hm : 4 ≤ m) (hfit : o + m ≤ cur.length) (hm2 : m ≤ 1024) (h0 : 0 ≤ n) (h1 : n ≤ 4294967295) :
    Calls Try.prog 19 #[.slice (some ⟨g, o, none⟩) m c, .int .i64 n] w fun e w' => e = .returned (.int .i64 4) ∧ w'.heap[g]? = some (.cells (By (splice cur o (leL n 4))).toArray 5 (0, 0)) ∧ Only (fun k => k = g) w w' := by
  have HH := Hid.mk h
  have hconv : n % 4294967296 = n := by omega
  clear h
  go_enter Try.func19, Try.ntmps19
  go_wp2_with (go_at_call 21; refine (width32_any _).mono ?_; rintro e w' ⟨rfl, hw⟩; subst w')
  clear hconv
  go_loopw [6, 12] (fun r i wr => ∃ k : Nat, k ≤ 4 ∧ i = .int .i64 k ∧ r = .int .u32 (n / 256 ^ k) ∧ wr.heap[g]? = some (.cells (By (splice cur o (leL n k))).toArray 5 (0, 0)) ∧ Only (fun k => k = g) w wr) (fun _ i _ => 4 - (intOf i).toNat)
  case atStart => exact ⟨0, by omega, rfl, by simp, by simpa [leL, splice] using HH.out, Only.refl _ _⟩
  case round =>
    obtain ⟨k, hk, rfl, rfl, hb, ho⟩ := hrel
    by_cases hlt : k < 4
    · have hr1 : n / 256 ^ (k + 1) = n / 256 ^ k / 256 := by rw [Int.pow_succ, Int.ediv_ediv_of_nonneg (Int.pow_nonneg (by decide))]
      have hr2 : 0 ≤ n / 256 ^ k := Int.ediv_nonneg h0 (Int.pow_nonneg (by decide))
      have hr3 : n / 256 ^ k ≤ n := Int.ediv_le_self _ h0
      have hl1 := leL_succ n k
      have HR := Hid.mk hr1
      have HL := Hid.mk hl1
      clear hl1 hr1
      generalize n / 256 ^ k = r at *
      have hd : r / 256 % 4294967296 = r / 256 := by omega
      have hlen : (splice cur o (leL n k)).length = cur.length := splice_length _ _ _ (by rw [leL_length]; omega)
      have hc1 : wr.cell? ⟨g, o + k, none⟩ = some (.int .u8 ((splice cur o (leL n k)).getD (o + k) 0)) := by
        rw [blk_cell hb]; simpa using By_get _ (o + k) (by rw [hlen]; omega)
      have hc2 : wr.frozen? ⟨g, o + k, none⟩ = false := blk_free hb _
      generalize (splice cur o (leL n k)).getD (o + k) 0 = old at hc1
      have HS := Hid.mk (splice_snoc cur o (leL n k) (r % 256) (by rw [leL_length]; omega))
      have HB := Hid.mk hb
      have HO := Hid.mk ho
      clear hb ho hlen
      go_wp2
      go_roundw
      case rel =>
        refine ⟨k + 1, by omega, by go_num, by rw [HR.out], ?_, HO.out.setCell (p := ⟨g, o + k, none⟩) (.inl rfl) _⟩
        rw [blk_set HB.out, By_setArr, HL.out, ← HS.out, leL_length]
      case measure => simp [intOf]; omega
    · have hge : (4 : Int) ≤ k := by omega
      obtain rfl : k = 4 := by omega
      have HB := Hid.mk hb
      have HO := Hid.mk ho
      clear hb ho
      go_wp2
      go_ret
      exact ⟨rfl, HB.out, HO.out⟩

set_option maxHeartbeats 1000000 in
theorem put16_any (w : World) (g o m c : Nat) (cur : List Int) (n : Int) (h : w.heap[g]? = some (.cells (By cur).toArray 5 (0, 0))) (hm : 2 ≤ m) (hfit : o + m ≤ cur.length) (hm2 : m ≤ 1024) (h0 : 0 ≤ n) (h1 : n ≤ 65535) :
    Calls Try.prog 28 #[.slice (some ⟨g, o, none⟩) m c, .int .i64 n] w fun e w' => e = .returned (.int .i64 2) ∧ w'.heap[g]? = some (.cells (By (splice cur o (leL n 2))).toArray 5 (0, 0)) ∧ Only (fun k => k = g) w w' := by
  have HH := Hid.mk h
  have hconv : n % 65536 = n := by omega
  clear h
  go_enter Try.func28, Try.ntmps28
  go_wp2_with (go_at_call 36; refine (width16_any _).mono ?_; rintro e w' ⟨rfl, hw⟩; subst w')
  clear hconv
  go_loopw [6, 12] (fun r i wr => ∃ k : Nat, k ≤ 2 ∧ i = .int .i64 k ∧ r = .int .u16 (n / 256 ^ k) ∧ wr.heap[g]? = some (.cells (By (splice cur o (leL n k))).toArray 5 (0, 0)) ∧ Only (fun k => k = g) w wr) (fun _ i _ => 2 - (intOf i).toNat)
  case atStart => exact ⟨0, by omega, rfl, by simp, by simpa [leL, splice] using HH.out, Only.refl _ _⟩
  case round =>
    obtain ⟨k, hk, rfl, rfl, hb, ho⟩ := hrel
    by_cases hlt : k < 2
    · have hr1 : n / 256 ^ (k + 1) = n / 256 ^ k / 256 := by rw [Int.pow_succ, Int.ediv_ediv_of_nonneg (Int.pow_nonneg (by decide))]
      have hr2 : 0 ≤ n / 256 ^ k := Int.ediv_nonneg h0 (Int.pow_nonneg (by decide))
      have hr3 : n / 256 ^ k ≤ n := Int.ediv_le_self _ h0
      have hl1 := leL_succ n k
      have HR := Hid.mk hr1
      have HL := Hid.mk hl1
      clear hl1 hr1
      generalize n / 256 ^ k = r at *
      have hd : r / 256 % 65536 = r / 256 := by omega
      have hlen : (splice cur o (leL n k)).length = cur.length := splice_length _ _ _ (by rw [leL_length]; omega)
      have hc1 : wr.cell? ⟨g, o + k, none⟩ = some (.int .u8 ((splice cur o (leL n k)).getD (o + k) 0)) := by
        rw [blk_cell hb]; simpa using By_get _ (o + k) (by rw [hlen]; omega)
      have hc2 : wr.frozen? ⟨g, o + k, none⟩ = false := blk_free hb _
      generalize (splice cur o (leL n k)).getD (o + k) 0 = old at hc1
      have HS := Hid.mk (splice_snoc cur o (leL n k) (r % 256) (by rw [leL_length]; omega))
      have HB := Hid.mk hb
      have HO := Hid.mk ho
      clear hb ho hlen
      go_wp2
      go_roundw
      case rel =>
        refine ⟨k + 1, by omega, by go_num, by rw [HR.out], ?_, HO.out.setCell (p := ⟨g, o + k, none⟩) (.inl rfl) _⟩
        rw [blk_set HB.out, By_setArr, HL.out, ← HS.out, leL_length]
      case measure => simp [intOf]; omega
    · have hge : (2 : Int) ≤ k := by omega
      obtain rfl : k = 2 := by omega
      have HB := Hid.mk hb
      have HO := Hid.mk ho
      clear hb ho
      go_wp2
      go_ret
      exact ⟨rfl, HB.out, HO.out⟩
end Go.Proofs.Ytgbjffnkholgoaa
