/-
  Rows of ints in memory; Fits, Put and All of the program.
-/
import Derived.Test.YteegopccpgbakaaPuts
namespace Go.Proofs.Yteegopccpgbakaa
open Go Go.Proofs Go.RowKit Go.Shelf
/-- Ints as cells. -/
def Iy (xs : List Int) : List Value := xs.map (Value.int .i64)
theorem Iy_length (xs : List Int) : (Iy xs).length = xs.length := by simp [Iy]
theorem Iy_get (xs : List Int) (i : Nat) (h : i < xs.length) : (Iy xs)[i]? = some (.int .i64 (xs.getD i 0)) := by simp [Iy, List.getD, List.getElem?_eq_getElem h]
theorem Iy_one (xs : List Int) : ∀ u ∈ Iy xs, u.oneCell' = true := by
  intro u hu
  obtain ⟨x, _, rfl⟩ := List.mem_map.1 hu
  rfl
theorem Iy_setArr (xs : List Int) (i : Nat) (y : Int) : (Iy xs).toArray.setIfInBounds i (.int .i64 y) = (Iy (xs.set i y)).toArray := by
  simp [Iy]
/-- A slice of ints as it lies in a world. -/
def LAt (W : World) (ao : Option Addr) (n : Nat) (xs : List Int) : Prop :=
  xs.length = n ∧ (0 < n → ∃ a, ao = some a ∧ a.block < W.heap.size ∧ ∀ i, i < n → W.cell? (a.add i) = some (.int .i64 (xs.getD i 0)))
theorem LAt.only {S : Nat → Prop} {W W' : World} {ao : Option Addr} {n : Nat} {xs : List Int} (h : LAt W ao n xs) (ho : Only S W W') (hS : ∀ a, ao = some a → a.block < W.heap.size → ¬ S a.block) : LAt W' ao n xs := by
  refine ⟨h.1, fun hn => ?_⟩
  obtain ⟨a, e, hlt, hc⟩ := h.2 hn
  refine ⟨a, e, Nat.lt_of_lt_of_le hlt ho.size, fun i hi => ?_⟩
  rw [World.cell?_of_block (w := W) (by rw [add_block]; exact ho.block _ hlt (hS a e hlt))]
  exact hc i hi
theorem LAt.at {W : World} {ao : Option Addr} {n : Nat} {xs : List Int} (h : LAt W ao n xs) (i : Nat) (hi : i < n) : ∃ a, ao = some a ∧ W.cell? (a.add i) = some (.int .i64 (xs.getD i 0)) := by
  obtain ⟨a, e, _, hc⟩ := h.2 (by omega)
  exact ⟨a, e, hc i hi⟩
theorem getD_mem {xs : List Int} {i : Nat} (h : i < xs.length) : xs.getD i 0 ∈ xs := by
  simp [List.getD, List.getElem?_eq_getElem h]
/-- Numbers in so many bytes each. -/
def leLs (K : Nat) (xs : List Int) : List Int := xs.flatMap (fun x => leL x K)
theorem leLs_snoc (K : Nat) (xs : List Int) (x : Int) : leLs K (xs ++ [x]) = leLs K xs ++ leL x K := by simp [leLs]
theorem leLs_length (K : Nat) (xs : List Int) : (leLs K xs).length = K * xs.length := by
  induction xs with
  | nil => simp [leLs]
  | cons x r ih =>
    have e : leLs K (x :: r) = leL x K ++ leLs K r := by simp [leLs]
    rw [e, List.length_append, ih, leL_length, List.length_cons, Nat.mul_succ, Nat.add_comm]
theorem leLs_bound (K : Nat) (xs : List Int) : ∀ x ∈ leLs K xs, 0 ≤ x ∧ x ≤ 255 := by
  intro x hx
  obtain ⟨y, _, h⟩ := List.mem_flatMap.1 hx
  exact leL_bound _ _ x h
/-- Are all of them from 0 to m? -/
def fitL (m : Int) (xs : List Int) : Bool := xs.all (fitB m)
theorem fitL_iff {m : Int} {xs : List Int} : fitL m xs = true ↔ ∀ x ∈ xs, 0 ≤ x ∧ x ≤ m := by
  simp [fitL, fitB]
theorem fitL_no {m : Int} {xs : List Int} {k : Nat} (hk : k < xs.length) (h : fitB m (xs.getD k 0) = false) : fitL m xs = false := by
  cases hh : fitL m xs with
  | false => rfl
  | true =>
    have := fitL_iff.1 hh _ (getD_mem hk)
    rw [fitB_iff.2 this] at h
    cases h
theorem fitL_all {m : Int} {xs : List Int} (h : ∀ k, k < xs.length → fitB m (xs.getD k 0) = true) : fitL m xs = true := by
  refine fitL_iff.2 (fun x hx => ?_)
  obtain ⟨i, hi, rfl⟩ := List.getElem_of_mem hx
  have := h i hi
  rw [show xs.getD i 0 = xs[i] by simp [List.getD, List.getElem?_eq_getElem hi]] at this
  exact fitB_iff.1 this
set_option maxHeartbeats 1000000 in
theorem fits32_any (w : World) (ao : Option Addr) (n c : Nat) (xs : List Int) (h : LAt w ao n xs) (hn : n ≤ 16777216) :
    Calls Try.prog 50 #[.slice ao n c] w fun e w' => e = .returned (.bool (fitL 4294967295 xs)) ∧ w' = w := by
  have HH := Hid.mk h
  have HL := Hid.mk h.1
  clear h
  go_enter Try.func50, Try.ntmps50
  go_wp2
  go_loop [7] (fun i => ∃ k : Nat, k ≤ n ∧ i = .int .i64 k ∧ ∀ j, j < k → fitB 4294967295 (xs.getD j 0) = true) (fun i => n - (intOf i).toNat)
  case atStart => exact ⟨0, by omega, rfl, fun j hj => by omega⟩
  case round =>
    obtain ⟨k, hk, rfl, hall⟩ := hrel
    have HA := Hid.mk hall
    clear hall
    by_cases hlt : k < n
    · obtain ⟨a', e, hc⟩ := HH.out.at k hlt
      subst e
      cases hf : fitB 4294967295 (xs.getD k 0) with
      | true =>
        have hb := fitB_iff.1 hf
        have HA2 : Hid (∀ j, j < k + 1 → fitB 4294967295 (xs.getD j 0) = true) := Hid.mk (fun j hj => by
          rcases Nat.lt_or_ge j k with h | h
          · exact HA.out j h
          · obtain rfl : j = k := by omega
            exact hf)
        clear hf
        generalize xs.getD k 0 = x at *
        have hconv : x % 4294967296 = x := by omega
        have hx0 : decide (x < 0) = false := decide_eq_false (by omega)
        go_wp2
        go_round
        case rel => exact ⟨k + 1, by omega, by go_num, HA2.out⟩
        case measure => simp [intOf]; omega
      | false =>
        have HN := Hid.mk (fitL_no (by rw [HL.out]; exact hlt) hf)
        have hb := fitB_no.1 hf
        clear hf
        generalize xs.getD k 0 = x at *
        by_cases hx : x < 0
        · go_wp2
          go_ret
          exact ⟨by rw [HN.out]; rfl, rfl⟩
        · have h1 : 4294967295 < x := by omega
          have h2 : ((x % 4294967296) == x) = false := by simp; omega
          have h3 : ¬ (x % 4294967296 = x) := by omega
          go_wp2
          go_ret
          exact ⟨by rw [HN.out]; rfl, rfl⟩
    · have hge : (n : Int) ≤ k := by omega
      obtain rfl : k = n := by omega
      have HN := Hid.mk (fitL_all (m := 4294967295) (xs := xs) (by rw [HL.out]; exact HA.out))
      go_wp2
      go_ret
      exact ⟨by rw [HN.out]; rfl, rfl⟩
set_option maxHeartbeats 1000000 in
theorem fits16_any (w : World) (ao : Option Addr) (n c : Nat) (xs : List Int) (h : LAt w ao n xs) (hn : n ≤ 16777216) :
    Calls Try.prog 49 #[.slice ao n c] w fun e w' => e = .returned (.bool (fitL 65535 xs)) ∧ w' = w := by
  have HH := Hid.mk h
  have HL := Hid.mk h.1
  clear h
  go_enter Try.func49, Try.ntmps49
  go_wp2
  go_loop [7] (fun i => ∃ k : Nat, k ≤ n ∧ i = .int .i64 k ∧ ∀ j, j < k → fitB 65535 (xs.getD j 0) = true) (fun i => n - (intOf i).toNat)
  case atStart => exact ⟨0, by omega, rfl, fun j hj => by omega⟩
  case round =>
    obtain ⟨k, hk, rfl, hall⟩ := hrel
    have HA := Hid.mk hall
    clear hall
    by_cases hlt : k < n
    · obtain ⟨a', e, hc⟩ := HH.out.at k hlt
      subst e
      cases hf : fitB 65535 (xs.getD k 0) with
      | true =>
        have hb := fitB_iff.1 hf
        have HA2 : Hid (∀ j, j < k + 1 → fitB 65535 (xs.getD j 0) = true) := Hid.mk (fun j hj => by
          rcases Nat.lt_or_ge j k with h | h
          · exact HA.out j h
          · obtain rfl : j = k := by omega
            exact hf)
        clear hf
        generalize xs.getD k 0 = x at *
        have hconv : x % 65536 = x := by omega
        have hx0 : decide (x < 0) = false := decide_eq_false (by omega)
        go_wp2
        go_round
        case rel => exact ⟨k + 1, by omega, by go_num, HA2.out⟩
        case measure => simp [intOf]; omega
      | false =>
        have HN := Hid.mk (fitL_no (by rw [HL.out]; exact hlt) hf)
        have hb := fitB_no.1 hf
        clear hf
        generalize xs.getD k 0 = x at *
        by_cases hx : x < 0
        · go_wp2
          go_ret
          exact ⟨by rw [HN.out]; rfl, rfl⟩
        · have h1 : 65535 < x := by omega
          have h2 : (wrap64 (IntKind.u16.wrap x) != x) = true := by
            have e : IntKind.u16.wrap x = x % 65536 := rfl
            rw [e]
            unfold wrap64
            simp only [bne_iff_ne, ne_eq]
            omega
          have h3 : ¬ (x % 65536 = x) := by omega
          go_wp2
          go_ret
          exact ⟨by rw [HN.out]; rfl, rfl⟩
    · have hge : (n : Int) ≤ k := by omega
      obtain rfl : k = n := by omega
      have HN := Hid.mk (fitL_all (m := 65535) (xs := xs) (by rw [HL.out]; exact HA.out))
      go_wp2
      go_ret
      exact ⟨by rw [HN.out]; rfl, rfl⟩
set_option maxHeartbeats 2000000 in
theorem put32_any (w : World) (g o m c : Nat) (cur : List Int) (ao : Option Addr) (n lc : Nat) (xs : List Int) (h : RAt w g cur) (hl : LAt w ao n xs) (hne : ∀ a, ao = some a → a.block ≠ g) (hf : ∀ x ∈ xs, 0 ≤ x ∧ x ≤ 4294967295) (hm : 4 * n ≤ m) (hfit : o + m ≤ cur.length) (hm2 : m ≤ 1024) :
    Calls Try.prog 40 #[.slice (some ⟨g, o, none⟩) m c, .slice ao n lc] w fun e w' => e = .returned (.int .i64 ((4 * n : Nat) : Int)) ∧ RAt w' g (splice cur o (leLs 4 xs)) ∧ Only (fun k => k = g) w w' := by
  have HH := Hid.mk h
  have HL := Hid.mk hl
  have HN := Hid.mk hne
  have HF := Hid.mk hf
  have HLEN := Hid.mk hl.1
  have hn : n ≤ 1024 := by omega
  clear h hl hne hf
  go_enter Try.func40, Try.ntmps40
  go_wp2
  go_loopw [5, 11] (fun p i wr => ∃ k : Nat, k ≤ n ∧ i = .int .i64 k ∧ p = .int .i64 ((4 * k : Nat) : Int) ∧ RAt wr g (splice cur o (leLs 4 (xs.take k))) ∧ Only (fun k => k = g) w wr) (fun _ i _ => n - (intOf i).toNat)
  case atStart => exact ⟨0, by omega, rfl, rfl, by simpa [leLs, splice] using HH.out, Only.refl _ _⟩
  case round =>
    obtain ⟨k, hk, rfl, rfl, hb, ho⟩ := hrel
    by_cases hlt : k < n
    · obtain ⟨a, e, hc⟩ := (HL.out.only ho (fun a e _ => HN.out a e)).at k hlt
      subst e
      have hxb := HF.out _ (getD_mem (xs := xs) (i := k) (by rw [HLEN.out]; exact hlt))
      have HT := Hid.mk (take_snoc xs k (by rw [HLEN.out]; exact hlt))
      have HTL : Hid ((xs.take k).length = k) := Hid.mk (by rw [List.length_take, HLEN.out]; omega)
      have HB := Hid.mk hb
      have HO := Hid.mk ho
      clear hb ho
      generalize xs.getD k 0 = x at *
      have hconv : x % 4294967296 = x := by omega
      go_wp2_with (go_at_call 56; refine (width32_any _).mono ?_; rintro e w' ⟨rfl, hw⟩; subst w')
      clear hconv hc
      have HLL : Hid ((leLs 4 (xs.take k)).length = 4 * k) := Hid.mk (by rw [leLs_length, HTL.out])
      go_loopw [5, 8, 18] (fun p r j wr => ∃ q i : Nat, i ≤ 4 ∧ q = 4 * k + i ∧ j = .int .i64 i ∧ p = .int .i64 q ∧ r = .int .u32 (x / 256 ^ i) ∧ RAt wr g (splice cur o (leLs 4 (xs.take k) ++ leL x i)) ∧ Only (fun k => k = g) w wr) (fun _ _ j _ => 4 - (intOf j).toNat)
      case atStart => exact ⟨4 * k, 0, by omega, by omega, rfl, rfl, by simp, by simpa [leL] using HB.out, HO.out⟩
      case round =>
        obtain ⟨q, i, hi, hq, rfl, rfl, rfl, hb, ho⟩ := hrel
        by_cases hlt2 : i < 4
        · have hr1 : x / 256 ^ (i + 1) = x / 256 ^ i / 256 := by rw [Int.pow_succ, Int.ediv_ediv_of_nonneg (Int.pow_nonneg (by decide))]
          have hr2 : 0 ≤ x / 256 ^ i := Int.ediv_nonneg hxb.1 (Int.pow_nonneg (by decide))
          have hr3 : x / 256 ^ i ≤ x := Int.ediv_le_self _ hxb.1
          have hl1 := leL_succ x i
          have HR := Hid.mk hr1
          have HL1 := Hid.mk hl1
          clear hl1 hr1
          generalize x / 256 ^ i = r at *
          have hd : r / 256 % 4294967296 = r / 256 := by omega
          have hbl : (leLs 4 (xs.take k) ++ leL x i).length = q := by rw [List.length_append, HLL.out, leL_length]; omega
          have hlen : (splice cur o (leLs 4 (xs.take k) ++ leL x i)).length = cur.length := splice_length _ _ _ (by rw [hbl]; omega)
          have hc1 : wr.cell? ⟨g, o + q, none⟩ = some (.int .u8 ((splice cur o (leLs 4 (xs.take k) ++ leL x i)).getD (o + q) 0)) := by
            rw [blk_cell hb]; simpa using By_get _ (o + q) (by rw [hlen]; omega)
          have hc2 : wr.frozen? ⟨g, o + q, none⟩ = false := blk_free hb _
          generalize (splice cur o (leLs 4 (xs.take k) ++ leL x i)).getD (o + q) 0 = old at hc1
          have HS := Hid.mk (splice_snoc cur o (leLs 4 (xs.take k) ++ leL x i) (r % 256) (by rw [hbl]; omega))
          have HB2 := Hid.mk hb
          have HO2 := Hid.mk ho
          have HBL := Hid.mk hbl
          have HQ := Hid.mk hq
          have hqm : q < m := by omega
          clear hb ho hlen hbl hq
          go_wp2
          go_roundw
          case rel =>
            refine ⟨q + 1, i + 1, by omega, by have := HQ.out; omega, by go_num, by go_num, by rw [HR.out], ?_, HO2.out.setCell (p := ⟨g, o + q, none⟩) (.inl rfl) _⟩
            unfold RAt
            rw [blk_set HB2.out, By_setArr, HL1.out, ← List.append_assoc, ← HS.out, HBL.out]
          case measure => simp [intOf]; omega
        · have hge : (4 : Int) ≤ i := by omega
          obtain rfl : i = 4 := by omega
          have HB2 := Hid.mk hb
          have HO2 := Hid.mk ho
          have hqm : q ≤ m := by omega
          have HQ := Hid.mk hq
          clear hb ho hq
          go_wp2
          go_roundw
          case rel => exact ⟨k + 1, by omega, by go_num, by have := HQ.out; go_num, by rw [HT.out, leLs_snoc]; exact HB2.out, HO2.out⟩
          case measure => simp [intOf]; omega
    · have hge : (n : Int) ≤ k := by omega
      obtain rfl : k = n := by omega
      have HB := Hid.mk hb
      have HO := Hid.mk ho
      clear hb ho
      go_wp2
      go_ret
      refine ⟨rfl, ?_, HO.out⟩
      have h := HB.out
      rwa [List.take_of_length_le (by rw [HLEN.out]; omega)] at h
set_option maxHeartbeats 2000000 in
theorem put16_any (w : World) (g o m c : Nat) (cur : List Int) (ao : Option Addr) (n lc : Nat) (xs : List Int) (h : RAt w g cur) (hl : LAt w ao n xs) (hne : ∀ a, ao = some a → a.block ≠ g) (hf : ∀ x ∈ xs, 0 ≤ x ∧ x ≤ 65535) (hm : 2 * n ≤ m) (hfit : o + m ≤ cur.length) (hm2 : m ≤ 1024) :
    Calls Try.prog 42 #[.slice (some ⟨g, o, none⟩) m c, .slice ao n lc] w fun e w' => e = .returned (.int .i64 ((2 * n : Nat) : Int)) ∧ RAt w' g (splice cur o (leLs 2 xs)) ∧ Only (fun k => k = g) w w' := by
  have HH := Hid.mk h
  have HL := Hid.mk hl
  have HN := Hid.mk hne
  have HF := Hid.mk hf
  have HLEN := Hid.mk hl.1
  have hn : n ≤ 1024 := by omega
  clear h hl hne hf
  go_enter Try.func42, Try.ntmps42
  go_wp2
  go_loopw [5, 11] (fun p i wr => ∃ k : Nat, k ≤ n ∧ i = .int .i64 k ∧ p = .int .i64 ((2 * k : Nat) : Int) ∧ RAt wr g (splice cur o (leLs 2 (xs.take k))) ∧ Only (fun k => k = g) w wr) (fun _ i _ => n - (intOf i).toNat)
  case atStart => exact ⟨0, by omega, rfl, rfl, by simpa [leLs, splice] using HH.out, Only.refl _ _⟩
  case round =>
    obtain ⟨k, hk, rfl, rfl, hb, ho⟩ := hrel
    by_cases hlt : k < n
    · obtain ⟨a, e, hc⟩ := (HL.out.only ho (fun a e _ => HN.out a e)).at k hlt
      subst e
      have hxb := HF.out _ (getD_mem (xs := xs) (i := k) (by rw [HLEN.out]; exact hlt))
      have HT := Hid.mk (take_snoc xs k (by rw [HLEN.out]; exact hlt))
      have HTL : Hid ((xs.take k).length = k) := Hid.mk (by rw [List.length_take, HLEN.out]; omega)
      have HB := Hid.mk hb
      have HO := Hid.mk ho
      clear hb ho
      generalize xs.getD k 0 = x at *
      have hconv : x % 65536 = x := by omega
      go_wp2_with (go_at_call 57; refine (width16_any _).mono ?_; rintro e w' ⟨rfl, hw⟩; subst w')
      clear hconv hc
      have HLL : Hid ((leLs 2 (xs.take k)).length = 2 * k) := Hid.mk (by rw [leLs_length, HTL.out])
      go_loopw [5, 8, 18] (fun p r j wr => ∃ q i : Nat, i ≤ 2 ∧ q = 2 * k + i ∧ j = .int .i64 i ∧ p = .int .i64 q ∧ r = .int .u16 (x / 256 ^ i) ∧ RAt wr g (splice cur o (leLs 2 (xs.take k) ++ leL x i)) ∧ Only (fun k => k = g) w wr) (fun _ _ j _ => 2 - (intOf j).toNat)
      case atStart => exact ⟨2 * k, 0, by omega, by omega, rfl, rfl, by simp, by simpa [leL] using HB.out, HO.out⟩
      case round =>
        obtain ⟨q, i, hi, hq, rfl, rfl, rfl, hb, ho⟩ := hrel
        by_cases hlt2 : i < 2
        · have hr1 : x / 256 ^ (i + 1) = x / 256 ^ i / 256 := by rw [Int.pow_succ, Int.ediv_ediv_of_nonneg (Int.pow_nonneg (by decide))]
          have hr2 : 0 ≤ x / 256 ^ i := Int.ediv_nonneg hxb.1 (Int.pow_nonneg (by decide))
          have hr3 : x / 256 ^ i ≤ x := Int.ediv_le_self _ hxb.1
          have hl1 := leL_succ x i
          have HR := Hid.mk hr1
          have HL1 := Hid.mk hl1
          clear hl1 hr1
          generalize x / 256 ^ i = r at *
          have hd : r / 256 % 65536 = r / 256 := by omega
          have hbl : (leLs 2 (xs.take k) ++ leL x i).length = q := by rw [List.length_append, HLL.out, leL_length]; omega
          have hlen : (splice cur o (leLs 2 (xs.take k) ++ leL x i)).length = cur.length := splice_length _ _ _ (by rw [hbl]; omega)
          have hc1 : wr.cell? ⟨g, o + q, none⟩ = some (.int .u8 ((splice cur o (leLs 2 (xs.take k) ++ leL x i)).getD (o + q) 0)) := by
            rw [blk_cell hb]; simpa using By_get _ (o + q) (by rw [hlen]; omega)
          have hc2 : wr.frozen? ⟨g, o + q, none⟩ = false := blk_free hb _
          generalize (splice cur o (leLs 2 (xs.take k) ++ leL x i)).getD (o + q) 0 = old at hc1
          have HS := Hid.mk (splice_snoc cur o (leLs 2 (xs.take k) ++ leL x i) (r % 256) (by rw [hbl]; omega))
          have HB2 := Hid.mk hb
          have HO2 := Hid.mk ho
          have HBL := Hid.mk hbl
          have HQ := Hid.mk hq
          have hqm : q < m := by omega
          clear hb ho hlen hbl hq
          go_wp2
          go_roundw
          case rel =>
            refine ⟨q + 1, i + 1, by omega, by have := HQ.out; omega, by go_num, by go_num, by rw [HR.out], ?_, HO2.out.setCell (p := ⟨g, o + q, none⟩) (.inl rfl) _⟩
            unfold RAt
            rw [blk_set HB2.out, By_setArr, HL1.out, ← List.append_assoc, ← HS.out, HBL.out]
          case measure => simp [intOf]; omega
        · have hge : (2 : Int) ≤ i := by omega
          obtain rfl : i = 2 := by omega
          have HB2 := Hid.mk hb
          have HO2 := Hid.mk ho
          have hqm : q ≤ m := by omega
          have HQ := Hid.mk hq
          clear hb ho hq
          go_wp2
          go_roundw
          case rel => exact ⟨k + 1, by omega, by go_num, by have := HQ.out; go_num, by rw [HT.out, leLs_snoc]; exact HB2.out, HO2.out⟩
          case measure => simp [intOf]; omega
    · have hge : (n : Int) ≤ k := by omega
      obtain rfl : k = n := by omega
      have HB := Hid.mk hb
      have HO := Hid.mk ho
      clear hb ho
      go_wp2
      go_ret
      refine ⟨rfl, ?_, HO.out⟩
      have h := HB.out
      rwa [List.take_of_length_le (by rw [HLEN.out]; omega)] at h
end Go.Proofs.Yteegopccpgbakaa
