/-
  Numbers as bytes: width, sum and put of the program.
-/
import Derived.Test.YtebeejmpnkdllaaCalls
import Derived.Test.YtebeejmpnkdllaaGeo
namespace Go.Proofs.Ytebeejmpnkdllaa
open Go Go.Proofs Go.RowKit Go.Shelf

set_option maxHeartbeats 400000 in
theorem width32_any (w : World) : Calls Try.prog 21 #[] w fun e w' => e = .returned (.int .i64 4) ∧ w' = w := by
  go_enter Try.func21, Try.ntmps21
  go_wp2
  go_loop [1, 2] (fun s r => (s = .int .i64 0 ∧ r = .int .u32 4294967295) ∨ (s = .int .i64 1 ∧ r = .int .u32 16777215) ∨ (s = .int .i64 2 ∧ r = .int .u32 65535) ∨ (s = .int .i64 3 ∧ r = .int .u32 255) ∨ (s = .int .i64 4 ∧ r = .int .u32 0)) (fun s _ => 4 - (intOf s).toNat)
  case atStart => left; exact ⟨rfl, rfl⟩
  case round =>
    rcases hrel with ⟨rfl, rfl⟩ | ⟨rfl, rfl⟩ | ⟨rfl, rfl⟩ | ⟨rfl, rfl⟩ | ⟨rfl, rfl⟩
    · go_wp2
      go_round
      case rel => right; left; exact ⟨rfl, rfl⟩
      case measure => simp [intOf]
    · go_wp2
      go_round
      case rel => right; right; left; exact ⟨rfl, rfl⟩
      case measure => simp [intOf]
    · go_wp2
      go_round
      case rel => right; right; right; left; exact ⟨rfl, rfl⟩
      case measure => simp [intOf]
    · go_wp2
      go_round
      case rel => right; right; right; right; exact ⟨rfl, rfl⟩
      case measure => simp [intOf]
    · go_wp2
      go_ret
      exact ⟨rfl, rfl⟩

set_option maxHeartbeats 400000 in
theorem width16_any (w : World) : Calls Try.prog 36 #[] w fun e w' => e = .returned (.int .i64 2) ∧ w' = w := by
  go_enter Try.func36, Try.ntmps36
  go_wp2
  go_loop [1, 2] (fun s r => (s = .int .i64 0 ∧ r = .int .u16 65535) ∨ (s = .int .i64 1 ∧ r = .int .u16 255) ∨ (s = .int .i64 2 ∧ r = .int .u16 0)) (fun s _ => 2 - (intOf s).toNat)
  case atStart => left; exact ⟨rfl, rfl⟩
  case round =>
    rcases hrel with ⟨rfl, rfl⟩ | ⟨rfl, rfl⟩ | ⟨rfl, rfl⟩
    · go_wp2
      go_round
      case rel => right; left; exact ⟨rfl, rfl⟩
      case measure => simp [intOf]
    · go_wp2
      go_round
      case rel => right; right; exact ⟨rfl, rfl⟩
      case measure => simp [intOf]
    · go_wp2
      go_ret
      exact ⟨rfl, rfl⟩

/-- sum: the sum of a row. -/
def sumL : List Int → Int
  | [] => 0
  | x :: r => x + sumL r
theorem sumL_append (a b : List Int) : sumL (a ++ b) = sumL a + sumL b := by
  induction a with
  | nil => simp [sumL]
  | cons x r ih => simp [sumL, ih]; omega
theorem sumL_bound (xs : List Int) (h : ∀ x ∈ xs, 0 ≤ x ∧ x ≤ 255) : 0 ≤ sumL xs ∧ sumL xs ≤ 255 * xs.length := by
  induction xs with
  | nil => simp [sumL]
  | cons x r ih =>
    have h1 := h x (by simp)
    have h2 := ih (fun y hy => h y (by simp [hy]))
    simp [sumL]
    omega
theorem take_snoc (xs : List Int) (k : Nat) (h : k < xs.length) : xs.take (k + 1) = xs.take k ++ [xs.getD k 0] := by
  rw [List.take_succ_eq_append_getElem h]
  simp [List.getD, List.getElem?_eq_getElem h]
theorem sumL_take (xs : List Int) (k : Nat) (h : k < xs.length) : sumL (xs.take (k + 1)) = sumL (xs.take k) + xs.getD k 0 := by
  rw [take_snoc xs k h, sumL_append]
  simp [sumL]

set_option maxHeartbeats 400000 in
theorem sum_any (w : World) (a : Addr) (n c : Nat) (xs : List Int) (h : BAt w (some a) n xs) (hx : ∀ x ∈ xs, 0 ≤ x ∧ x ≤ 255) (hn : n ≤ 1024) :
    Calls Try.prog 20 #[.slice (some a) n c] w fun e w' => e = .returned (.int .i64 (sumL xs)) ∧ w' = w := by
  have HH := Hid.mk h
  have HX := Hid.mk hx
  have hl := h.1
  have HL := Hid.mk hl
  clear h hx hl
  go_enter Try.func20, Try.ntmps20
  go_wp2
  go_loop [3, 8] (fun s i => ∃ k : Nat, k ≤ n ∧ i = .int .i64 k ∧ s = .int .i64 (sumL (xs.take k))) (fun _ i => n - (intOf i).toNat)
  case atStart => exact ⟨0, by omega, rfl, rfl⟩
  case round =>
    obtain ⟨k, hk, rfl, rfl⟩ := hrel
    by_cases hlt : k < n
    · obtain ⟨a', e, hc⟩ := HH.out.at k hlt
      cases e
      have hs := sumL_take xs k (by rw [HL.out]; exact hlt)
      have hb := sumL_bound (xs.take k) (fun x hx => HX.out x (List.mem_of_mem_take hx))
      have hbb := getD_bound xs HX.out k
      have hlen : (xs.take k).length ≤ 1024 := by have := HL.out; simp; omega
      generalize xs.getD k 0 = x at *
      generalize sumL (xs.take k) = y at *
      have hwr : IntKind.i64.wrap (y + x) = y + x := by rw [IntKind.wrap_i64]; omega
      have HS := Hid.mk hs
      clear hlen hs
      go_wp2
      go_round
      case rel => exact ⟨k + 1, by omega, by go_num, by rw [HS.out]⟩
      case measure => simp [intOf]; omega
    · have hge : (n : Int) ≤ k := by omega
      go_wp2
      go_ret
      refine ⟨?_, rfl⟩
      rw [List.take_of_length_le (by rw [HL.out]; omega)]
      rfl

/-- A number in so many bytes, the lowest first. -/
def leL (n : Int) (k : Nat) : List Int := (List.range k).map (fun i => n / 256 ^ i % 256)
theorem leL_length (n : Int) (k : Nat) : (leL n k).length = k := by simp [leL]
theorem leL_succ (n : Int) (k : Nat) : leL n (k + 1) = leL n k ++ [n / 256 ^ k % 256] := by simp [leL, List.range_succ]
theorem leL_bound (n : Int) (k : Nat) : ∀ x ∈ leL n k, 0 ≤ x ∧ x ≤ 255 := by
  intro x hx
  obtain ⟨i, _, rfl⟩ := List.mem_map.1 hx
  omega
theorem splice_length {α : Type} (cur : List α) (o : Nat) (ys : List α) (h : o + ys.length ≤ cur.length) : (splice cur o ys).length = cur.length := by
  simp [splice]; omega
theorem splice_snoc (cur : List Int) (o : Nat) (ys : List Int) (y : Int) (h : o + ys.length < cur.length) : (splice cur o ys).set (o + ys.length) y = splice cur o (ys ++ [y]) := by
  unfold splice
  have h1 : (List.take o cur).length = o := by simp; omega
  rw [List.set_append_right _ _ (by simp; omega), h1, Nat.add_sub_cancel_left, List.set_append_right _ _ (by omega), Nat.sub_self, List.drop_eq_getElem_cons h]
  simp [Nat.add_assoc]
theorem By_setArr (xs : List Int) (i : Nat) (y : Int) : (By xs).toArray.setIfInBounds i (.int .u8 y) = (By (xs.set i y)).toArray := by
  simp [By]

/-- Ints as cells. -/
def Iy (xs : List Int) : List Value := xs.map (Value.int .i64)
theorem Iy_length (xs : List Int) : (Iy xs).length = xs.length := by simp [Iy]
theorem Iy_get (xs : List Int) (i : Nat) (h : i < xs.length) : (Iy xs)[i]? = some (.int .i64 (xs.getD i 0)) := by simp [Iy, List.getD, List.getElem?_eq_getElem h]
/-- A slice of ints as it lies in a world. -/
def LAt (W : World) (ao : Option Addr) (n : Nat) (xs : List Int) : Prop :=
  xs.length = n ∧ (0 < n → ∃ a, ao = some a ∧ a.block < W.heap.size ∧ ∀ i, i < n → W.cell? (a.add i) = some (.int .i64 (xs.getD i 0)))
theorem LAt.only {S : Nat → Prop} {W W' : World} {ao : Option Addr} {n : Nat} {xs : List Int} (h : LAt W ao n xs) (ho : Only S W W') (hS : ∀ a, ao = some a → a.block < W.heap.size → ¬ S a.block) : LAt W' ao n xs := by
  refine ⟨h.1, fun hn => ?_⟩
  obtain ⟨a, e, hlt, hc⟩ := h.2 hn
  refine ⟨a, e, Nat.lt_of_lt_of_le hlt ho.size, fun i hi => ?_⟩
  rw [World.cell?_of_block (w := W) (by rw [add_block]; exact ho.block _ hlt (hS a e hlt))]
  exact hc i hi
theorem LAt.at {W : World} {ao : Option Addr} {n : Nat} {xs : List Int} (h : LAt W ao n xs) (i : Nat) (hi : i < n) : ∃ a, ao = some a ∧ W.cell? (a.add i) = some (.int .i64 (xs.getD i 0)) := by
  obtain ⟨a, e, _, hc⟩ := h.2 (by omega)
  exact ⟨a, e, hc i hi⟩
theorem getD_mem {xs : List Int} {i : Nat} (h : i < xs.length) : xs.getD i 0 ∈ xs := by
  simp [List.getD, List.getElem?_eq_getElem h]

/-- Numbers in so many bytes each. -/
def leLs (K : Nat) (xs : List Int) : List Int := xs.flatMap (fun x => leL x K)
theorem leLs_snoc (K : Nat) (xs : List Int) (x : Int) : leLs K (xs ++ [x]) = leLs K xs ++ leL x K := by simp [leLs]
theorem leLs_length (K : Nat) (xs : List Int) : (leLs K xs).length = K * xs.length := by
  induction xs with
  | nil => simp [leLs]
  | cons x r ih =>
    have e : leLs K (x :: r) = leL x K ++ leLs K r := by simp [leLs]
    rw [e, List.length_append, ih, leL_length, List.length_cons, Nat.mul_succ, Nat.add_comm]
theorem leLs_bound (K : Nat) (xs : List Int) : ∀ x ∈ leLs K xs, 0 ≤ x ∧ x ≤ 255 := by
  intro x hx
  obtain ⟨y, _, h⟩ := List.mem_flatMap.1 hx
  exact leL_bound _ _ x h

/-- Block g is a row of these bytes. -/
def RAt (W : World) (g : Nat) (xs : List Int) : Prop := W.heap[g]? = some (.cells (By xs).toArray 5 (0, 0))
theorem RAt.lt {W : World} {g : Nat} {xs : List Int} (h : RAt W g xs) : g < W.heap.size := lt_of_block h
theorem RAt.bat {W : World} {g : Nat} {xs : List Int} (h : RAt W g xs) (o n : Nat) (hn : o + n ≤ xs.length) : BAt W (some ⟨g, o, none⟩) n ((xs.drop o).take n) := by
  refine ⟨by simp; omega, fun _ => ⟨_, rfl, h.lt, fun i hi => ?_⟩⟩
  rw [bytes_at h o i (by omega)]
  simp [List.getD, hi]
theorem RAt.below {W W' : World} {g B : Nat} {xs : List Int} (h : RAt W g xs) (hb : Below B W W') (hg : g < B) : RAt W' g xs := by
  unfold RAt
  rw [hb.block g hg]
  exact h

set_option maxHeartbeats 2000000 in
theorem put32_any (w : World) (g o m c : Nat) (cur : List Int) (ao : Option Addr) (n lc : Nat) (xs : List Int) (h : RAt w g cur) (hl : LAt w ao n xs) (hne : ∀ a, ao = some a → a.block ≠ g) (hf : ∀ x ∈ xs, 0 ≤ x ∧ x ≤ 4294967295) (hm : 4 * n ≤ m) (hfit : o + m ≤ cur.length) (hm2 : m ≤ 1024) :
    Calls Try.prog 19 #[.slice (some ⟨g, o, none⟩) m c, .slice ao n lc] w fun e w' => e = .returned (.int .i64 ((4 * n : Nat) : Int)) ∧ RAt w' g (splice cur o (leLs 4 xs)) ∧ Only (fun k => k = g) w w' := by
  have HH := Hid.mk h
  have HL := Hid.mk hl
  have HN := Hid.mk hne
  have HF := Hid.mk hf
  have HLEN := Hid.mk hl.1
  have hn : n ≤ 1024 := by omega
  clear h hl hne hf
  go_enter Try.func19, Try.ntmps19
  go_wp2
  go_loopw [5, 11] (fun p i wr => ∃ k : Nat, k ≤ n ∧ i = .int .i64 k ∧ p = .int .i64 ((4 * k : Nat) : Int) ∧ RAt wr g (splice cur o (leLs 4 (xs.take k))) ∧ Only (fun k => k = g) w wr) (fun _ i _ => n - (intOf i).toNat)
  case atStart => exact ⟨0, by omega, rfl, rfl, by simpa [leLs, splice] using HH.out, Only.refl _ _⟩
  case round =>
    obtain ⟨k, hk, rfl, rfl, hb, ho⟩ := hrel
    by_cases hlt : k < n
    · obtain ⟨a, e, hc⟩ := (HL.out.only ho (fun a e _ => HN.out a e)).at k hlt
      subst e
      have hxb := HF.out _ (getD_mem (xs := xs) (i := k) (by rw [HLEN.out]; exact hlt))
      have HT := Hid.mk (take_snoc xs k (by rw [HLEN.out]; exact hlt))
      have HTL : Hid ((xs.take k).length = k) := Hid.mk (by rw [List.length_take, HLEN.out]; omega)
      have HB := Hid.mk hb
      have HO := Hid.mk ho
      clear hb ho
      generalize xs.getD k 0 = x at *
      have hconv : x % 4294967296 = x := by omega
      go_wp2_with (go_at_call 21; refine (width32_any _).mono ?_; rintro e w' ⟨rfl, hw⟩; subst w')
      clear hconv hc
      have HLL : Hid ((leLs 4 (xs.take k)).length = 4 * k) := Hid.mk (by rw [leLs_length, HTL.out])
      go_loopw [5, 8, 18] (fun p r j wr => ∃ q i : Nat, i ≤ 4 ∧ q = 4 * k + i ∧ j = .int .i64 i ∧ p = .int .i64 q ∧ r = .int .u32 (x / 256 ^ i) ∧ RAt wr g (splice cur o (leLs 4 (xs.take k) ++ leL x i)) ∧ Only (fun k => k = g) w wr) (fun _ _ j _ => 4 - (intOf j).toNat)
      case atStart => exact ⟨4 * k, 0, by omega, by omega, rfl, rfl, by simp, by simpa [leL] using HB.out, HO.out⟩
      case round =>
        obtain ⟨q, i, hi, hq, rfl, rfl, rfl, hb, ho⟩ := hrel
        by_cases hlt2 : i < 4
        · have hr1 : x / 256 ^ (i + 1) = x / 256 ^ i / 256 := by rw [Int.pow_succ, Int.ediv_ediv_of_nonneg (Int.pow_nonneg (by decide))]
          have hr2 : 0 ≤ x / 256 ^ i := Int.ediv_nonneg hxb.1 (Int.pow_nonneg (by decide))
          have hr3 : x / 256 ^ i ≤ x := Int.ediv_le_self _ hxb.1
          have hl1 := leL_succ x i
          have HR := Hid.mk hr1
          have HL1 := Hid.mk hl1
          clear hl1 hr1
          generalize x / 256 ^ i = r at *
          have hd : r / 256 % 4294967296 = r / 256 := by omega
          have hbl : (leLs 4 (xs.take k) ++ leL x i).length = q := by rw [List.length_append, HLL.out, leL_length]; omega
          have hlen : (splice cur o (leLs 4 (xs.take k) ++ leL x i)).length = cur.length := splice_length _ _ _ (by rw [hbl]; omega)
          have hc1 : wr.cell? ⟨g, o + q, none⟩ = some (.int .u8 ((splice cur o (leLs 4 (xs.take k) ++ leL x i)).getD (o + q) 0)) := by
            rw [blk_cell hb]; simpa using By_get _ (o + q) (by rw [hlen]; omega)
          have hc2 : wr.frozen? ⟨g, o + q, none⟩ = false := blk_free hb _
          generalize (splice cur o (leLs 4 (xs.take k) ++ leL x i)).getD (o + q) 0 = old at hc1
          have HS := Hid.mk (splice_snoc cur o (leLs 4 (xs.take k) ++ leL x i) (r % 256) (by rw [hbl]; omega))
          have HB2 := Hid.mk hb
          have HO2 := Hid.mk ho
          have HBL := Hid.mk hbl
          have HQ := Hid.mk hq
          have hqm : q < m := by omega
          clear hb ho hlen hbl hq
          go_wp2
          go_roundw
          case rel =>
            refine ⟨q + 1, i + 1, by omega, by have := HQ.out; omega, by go_num, by go_num, by rw [HR.out], ?_, HO2.out.setCell (p := ⟨g, o + q, none⟩) (.inl rfl) _⟩
            unfold RAt
            rw [blk_set HB2.out, By_setArr, HL1.out, ← List.append_assoc, ← HS.out, HBL.out]
          case measure => simp [intOf]; omega
        · have hge : (4 : Int) ≤ i := by omega
          obtain rfl : i = 4 := by omega
          have HB2 := Hid.mk hb
          have HO2 := Hid.mk ho
          have hqm : q ≤ m := by omega
          have HQ := Hid.mk hq
          clear hb ho hq
          go_wp2
          go_roundw
          case rel => exact ⟨k + 1, by omega, by go_num, by have := HQ.out; go_num, by rw [HT.out, leLs_snoc]; exact HB2.out, HO2.out⟩
          case measure => simp [intOf]; omega
    · have hge : (n : Int) ≤ k := by omega
      obtain rfl : k = n := by omega
      have HB := Hid.mk hb
      have HO := Hid.mk ho
      clear hb ho
      go_wp2
      go_ret
      refine ⟨rfl, ?_, HO.out⟩
      have h := HB.out
      rwa [List.take_of_length_le (by rw [HLEN.out]; omega)] at h
set_option maxHeartbeats 2000000 in
theorem put16_any (w : World) (g o m c : Nat) (cur : List Int) (ao : Option Addr) (n lc : Nat) (xs : List Int) (h : RAt w g cur) (hl : LAt w ao n xs) (hne : ∀ a, ao = some a → a.block ≠ g) (hf : ∀ x ∈ xs, 0 ≤ x ∧ x ≤ 65535) (hm : 2 * n ≤ m) (hfit : o + m ≤ cur.length) (hm2 : m ≤ 1024) :
    Calls Try.prog 28 #[.slice (some ⟨g, o, none⟩) m c, .slice ao n lc] w fun e w' => e = .returned (.int .i64 ((2 * n : Nat) : Int)) ∧ RAt w' g (splice cur o (leLs 2 xs)) ∧ Only (fun k => k = g) w w' := by
  have HH := Hid.mk h
  have HL := Hid.mk hl
  have HN := Hid.mk hne
  have HF := Hid.mk hf
  have HLEN := Hid.mk hl.1
  have hn : n ≤ 1024 := by omega
  clear h hl hne hf
  go_enter Try.func28, Try.ntmps28
  go_wp2
  go_loopw [5, 11] (fun p i wr => ∃ k : Nat, k ≤ n ∧ i = .int .i64 k ∧ p = .int .i64 ((2 * k : Nat) : Int) ∧ RAt wr g (splice cur o (leLs 2 (xs.take k))) ∧ Only (fun k => k = g) w wr) (fun _ i _ => n - (intOf i).toNat)
  case atStart => exact ⟨0, by omega, rfl, rfl, by simpa [leLs, splice] using HH.out, Only.refl _ _⟩
  case round =>
    obtain ⟨k, hk, rfl, rfl, hb, ho⟩ := hrel
    by_cases hlt : k < n
    · obtain ⟨a, e, hc⟩ := (HL.out.only ho (fun a e _ => HN.out a e)).at k hlt
      subst e
      have hxb := HF.out _ (getD_mem (xs := xs) (i := k) (by rw [HLEN.out]; exact hlt))
      have HT := Hid.mk (take_snoc xs k (by rw [HLEN.out]; exact hlt))
      have HTL : Hid ((xs.take k).length = k) := Hid.mk (by rw [List.length_take, HLEN.out]; omega)
      have HB := Hid.mk hb
      have HO := Hid.mk ho
      clear hb ho
      generalize xs.getD k 0 = x at *
      have hconv : x % 65536 = x := by omega
      go_wp2_with (go_at_call 36; refine (width16_any _).mono ?_; rintro e w' ⟨rfl, hw⟩; subst w')
      clear hconv hc
      have HLL : Hid ((leLs 2 (xs.take k)).length = 2 * k) := Hid.mk (by rw [leLs_length, HTL.out])
      go_loopw [5, 8, 18] (fun p r j wr => ∃ q i : Nat, i ≤ 2 ∧ q = 2 * k + i ∧ j = .int .i64 i ∧ p = .int .i64 q ∧ r = .int .u16 (x / 256 ^ i) ∧ RAt wr g (splice cur o (leLs 2 (xs.take k) ++ leL x i)) ∧ Only (fun k => k = g) w wr) (fun _ _ j _ => 2 - (intOf j).toNat)
      case atStart => exact ⟨2 * k, 0, by omega, by omega, rfl, rfl, by simp, by simpa [leL] using HB.out, HO.out⟩
      case round =>
        obtain ⟨q, i, hi, hq, rfl, rfl, rfl, hb, ho⟩ := hrel
        by_cases hlt2 : i < 2
        · have hr1 : x / 256 ^ (i + 1) = x / 256 ^ i / 256 := by rw [Int.pow_succ, Int.ediv_ediv_of_nonneg (Int.pow_nonneg (by decide))]
          have hr2 : 0 ≤ x / 256 ^ i := Int.ediv_nonneg hxb.1 (Int.pow_nonneg (by decide))
          have hr3 : x / 256 ^ i ≤ x := Int.ediv_le_self _ hxb.1
          have hl1 := leL_succ x i
          have HR := Hid.mk hr1
          have HL1 := Hid.mk hl1
          clear hl1 hr1
          generalize x / 256 ^ i = r at *
          have hd : r / 256 % 65536 = r / 256 := by omega
          have hbl : (leLs 2 (xs.take k) ++ leL x i).length = q := by rw [List.length_append, HLL.out, leL_length]; omega
          have hlen : (splice cur o (leLs 2 (xs.take k) ++ leL x i)).length = cur.length := splice_length _ _ _ (by rw [hbl]; omega)
          have hc1 : wr.cell? ⟨g, o + q, none⟩ = some (.int .u8 ((splice cur o (leLs 2 (xs.take k) ++ leL x i)).getD (o + q) 0)) := by
            rw [blk_cell hb]; simpa using By_get _ (o + q) (by rw [hlen]; omega)
          have hc2 : wr.frozen? ⟨g, o + q, none⟩ = false := blk_free hb _
          generalize (splice cur o (leLs 2 (xs.take k) ++ leL x i)).getD (o + q) 0 = old at hc1
          have HS := Hid.mk (splice_snoc cur o (leLs 2 (xs.take k) ++ leL x i) (r % 256) (by rw [hbl]; omega))
          have HB2 := Hid.mk hb
          have HO2 := Hid.mk ho
          have HBL := Hid.mk hbl
          have HQ := Hid.mk hq
          have hqm : q < m := by omega
          clear hb ho hlen hbl hq
          go_wp2
          go_roundw
          case rel =>
            refine ⟨q + 1, i + 1, by omega, by have := HQ.out; omega, by go_num, by go_num, by rw [HR.out], ?_, HO2.out.setCell (p := ⟨g, o + q, none⟩) (.inl rfl) _⟩
            unfold RAt
            rw [blk_set HB2.out, By_setArr, HL1.out, ← List.append_assoc, ← HS.out, HBL.out]
          case measure => simp [intOf]; omega
        · have hge : (2 : Int) ≤ i := by omega
          obtain rfl : i = 2 := by omega
          have HB2 := Hid.mk hb
          have HO2 := Hid.mk ho
          have hqm : q ≤ m := by omega
          have HQ := Hid.mk hq
          clear hb ho hq
          go_wp2
          go_roundw
          case rel => exact ⟨k + 1, by omega, by go_num, by have := HQ.out; go_num, by rw [HT.out, leLs_snoc]; exact HB2.out, HO2.out⟩
          case measure => simp [intOf]; omega
    · have hge : (n : Int) ≤ k := by omega
      obtain rfl : k = n := by omega
      have HB := Hid.mk hb
      have HO := Hid.mk ho
      clear hb ho
      go_wp2
      go_ret
      refine ⟨rfl, ?_, HO.out⟩
      have h := HB.out
      rwa [List.take_of_length_le (by rw [HLEN.out]; omega)] at h

/-- A row of ints that was built just now. -/
theorem lat_newi (W : World) (xs : List Int) : LAt (W.alloc (.cells (Iy xs).toArray 3)) (some ⟨W.heap.size, 0, none⟩) xs.length xs := by
  refine ⟨rfl, fun _ => ⟨_, rfl, by simp, fun i hi => ?_⟩⟩
  rw [add_at, blk_cell (blk_new W _), Nat.zero_add]
  simpa using Iy_get xs i hi
end Go.Proofs.Ytebeejmpnkdllaa
