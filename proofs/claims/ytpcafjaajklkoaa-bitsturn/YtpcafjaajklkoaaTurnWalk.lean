/-
  BitsTurn: a bit that is set is there, and no other one has changed.
-/
import Derived.Test.YtpcafjaajklkoaaRef
import Derived.Deep.RegionWith
namespace Go.Proofs.Ytpcafjaajklkoaa
open Go Go.Proofs Go.RowKit Go.Shelf

theorem getI_with (xs : List Int) (i : Int) (on : Bool) (j : Int) (h : ∀ x ∈ xs, 0 ≤ x ∧ x ≤ 255) : getI (withI xs i on) j = if hasI xs.length i = true ∧ j = i then on else getI xs j := by
  unfold getI
  by_cases h0 : 0 ≤ j
  · obtain ⟨q, rfl⟩ : ∃ q : Nat, j = q := ⟨j.toNat, by omega⟩
    rw [Int.toNat_natCast, getN_with _ _ _ _ h]
    simp
  · rw [if_neg]
    · simp [h0]
    · rintro ⟨h1, rfl⟩
      rw [hasI_neg _ _ (by omega)] at h1
      cases h1

/-- What the count has gained. -/
def gain (has on was : Bool) : Int := if has = true then (if on = true then 1 else 0) - (if was = true then 1 else 0) else 0

theorem cnt_with (xs : List Int) (i : Int) (on : Bool) (h : ∀ x ∈ xs, 0 ≤ x ∧ x ≤ 255) : ∀ e : Nat, (cntN (withI xs i on) e : Int) = cntN xs e + (if i < (e : Int) then gain (hasI xs.length i) on (getI xs i) else 0)
  | 0 => by
    by_cases h0 : i < ((0 : Nat) : Int)
    · rw [if_pos h0, hasI_neg _ _ (by simpa using h0)]; rfl
    · rw [if_neg h0]; rfl
  | e + 1 => by
    have ih := cnt_with xs i on h e
    rw [cntN_succ, cntN_succ, getN_with _ _ _ _ h]
    by_cases hh : hasI xs.length i = true
    · by_cases he : (e : Int) = i
      · subst he
        rw [if_neg (by omega)] at ih
        rw [if_pos (show hasI xs.length (e : Int) = true ∧ (e : Int) = (e : Int) from ⟨hh, rfl⟩), if_pos (show (e : Int) < ((e + 1 : Nat) : Int) by omega), getI_nat, hh]
        unfold gain
        cases on <;> cases getN xs e <;> simp <;> omega
      · rw [if_neg (show ¬ (hasI xs.length i = true ∧ (e : Int) = i) from fun h => he h.2)]
        by_cases h1 : i < (e : Int)
        · rw [if_pos h1] at ih
          rw [if_pos (show i < ((e + 1 : Nat) : Int) by omega)]
          omega
        · rw [if_neg h1] at ih
          rw [if_neg (show ¬ i < ((e + 1 : Nat) : Int) by omega)]
          omega
    · have hg : ∀ was, gain (hasI xs.length i) on was = 0 := fun was => by unfold gain; rw [if_neg hh]
      rw [hg, if_neg (show ¬ (hasI xs.length i = true ∧ (e : Int) = i) from fun h => hh h.1)]
      rw [hg] at ih
      simp at ih ⊢
      omega

theorem cnt_gain (xs : List Int) (i : Int) (on : Bool) (h : ∀ x ∈ xs, 0 ≤ x ∧ x ≤ 255) : (cntN (withI xs i on) (8 * xs.length) : Int) - (cntN xs (8 * xs.length) : Int) = gain (hasI xs.length i) on (getI xs i) := by
  rw [cnt_with xs i on h]
  by_cases hh : i < ((8 * xs.length : Nat) : Int)
  · rw [if_pos hh]; omega
  · rw [if_neg hh]
    have e : hasI xs.length i = false := by
      unfold hasI
      simp
      omega
    rw [e]
    unfold gain
    simp

theorem BAt.below {W W' : World} {ao : Option Addr} {n : Nat} {xs : List Int} (h : BAt W ao n xs) (hb : Below W.heap.size W W') : BAt W' ao n xs := h.only (Only.of_new (fun _ => False) hb) (fun _ _ _ h => h)

theorem below_drewN {B : Nat} {w W : World} (h : Below B w W) (m : Nat) : Below B w (W.drewN m) := ⟨h.os, h.tape, h.output, h.size, h.block⟩

/-- The row that was handed in, and the one with a bit turned. -/
def TW (w : World) (xs ys : List Int) (ao : Option Addr) (n : Nat) (ao' : Option Addr) (W : World) : Prop := BAt W ao' n ys ∧ BAt W ao n xs ∧ Below w.heap.size w W

theorem TW.get1 {w : World} {xs ys : List Int} {ao ao' : Option Addr} {n : Nat} {W : World} (h : TW w xs ys ao n ao' W) (hy : ∀ x ∈ ys, 0 ≤ x ∧ x ≤ 255) (c : Nat) (k : Int) (hk : I64 k) (b : Bool) (hb : getI ys k = b) :
    Calls Try.prog 11 #[.slice ao' n c, .int .i64 k] W fun e W' => e = .returned (.bool b) ∧ TW w xs ys ao n ao' W' := by
  refine (get_any W ao' n c ys h.1 hy k hk).mono ?_
  rintro e W' ⟨rfl, m, rfl⟩
  exact ⟨by rw [hb], h.1, h.2.1, below_drewN h.2.2 m⟩
theorem TW.get2 {w : World} {xs ys : List Int} {ao ao' : Option Addr} {n : Nat} {W : World} (h : TW w xs ys ao n ao' W) (hx : ∀ x ∈ xs, 0 ≤ x ∧ x ≤ 255) (c : Nat) (k : Int) (hk : I64 k) (b : Bool) (hb : getI xs k = b) :
    Calls Try.prog 11 #[.slice ao n c, .int .i64 k] W fun e W' => e = .returned (.bool b) ∧ TW w xs ys ao n ao' W' := by
  refine (get_any W ao n c xs h.2.1 hx k hk).mono ?_
  rintro e W' ⟨rfl, m, rfl⟩
  exact ⟨by rw [hb], h.1, h.2.1, below_drewN h.2.2 m⟩
theorem TW.count1 {w : World} {xs ys : List Int} {ao ao' : Option Addr} {n : Nat} {W : World} (h : TW w xs ys ao n ao' W) (hy : ∀ x ∈ ys, 0 ≤ x ∧ x ≤ 255) (hn : n ≤ 500) (c : Nat) (C : Nat) (hc : cntN ys (8 * n) = C) :
    Calls Try.prog 13 #[.slice ao' n c, .int .i64 (8 * (n : Int))] W fun e W' => e = .returned (.int .i64 C) ∧ TW w xs ys ao n ao' W' := by
  refine (count_any W ao' n c ys h.1 hy (by omega) (8 * (n : Int)) ⟨by omega, by omega⟩).mono ?_
  rintro e W' ⟨rfl, hB⟩
  have e1 : bndI ys (8 * (n : Int)) = 8 * n := by unfold bndI; rw [h.1.1]; omega
  exact ⟨by rw [e1, hc], h.1.below hB, h.2.1.below hB, h.2.2.trans (hB.mono h.2.2.size)⟩
theorem TW.count2 {w : World} {xs ys : List Int} {ao ao' : Option Addr} {n : Nat} {W : World} (h : TW w xs ys ao n ao' W) (hx : ∀ x ∈ xs, 0 ≤ x ∧ x ≤ 255) (hn : n ≤ 500) (c : Nat) (C : Nat) (hc : cntN xs (8 * n) = C) :
    Calls Try.prog 13 #[.slice ao n c, .int .i64 (8 * (n : Int))] W fun e W' => e = .returned (.int .i64 C) ∧ TW w xs ys ao n ao' W' := by
  refine (count_any W ao n c xs h.2.1 hx (by omega) (8 * (n : Int)) ⟨by omega, by omega⟩).mono ?_
  rintro e W' ⟨rfl, hB⟩
  have e1 : bndI xs (8 * (n : Int)) = 8 * n := by unfold bndI; rw [h.2.1.1]; omega
  exact ⟨by rw [e1, hc], h.1.below hB, h.2.1.below hB, h.2.2.trans (hB.mono h.2.2.size)⟩

theorem tw_with (w W : World) (ao : Option Addr) (n c : Nat) (xs : List Int) (h : BAt w ao n xs) (hx : ∀ x ∈ xs, 0 ≤ x ∧ x ≤ 255) (hnone : ao = none → n = 0 ∧ c = 0) (hn : n ≤ 500) (i : Int) (hi : I64 i) (on : Bool) (hB : Below w.heap.size w W) :
    Calls Try.prog 7 #[.slice ao n c, .int .i64 i, .bool on] W fun e W' => ∃ ao' c', e = .returned (.slice ao' n c') ∧ TW w xs (withI xs i on) ao n ao' W' := by
  have hW := h.below hB
  refine (with_any W ao n c i hi on xs hW hx hnone (by omega)).mono ?_
  rintro e W' ⟨v', rfl, hown, hB'⟩
  obtain ⟨ao', c', rfl, hb', _, _⟩ := owns_BAt hown
  exact ⟨ao', c', rfl, hb', hW.below hB', hB.trans (hB'.mono hB.size)⟩

theorem turn_long (w : World) (ao : Option Addr) (n c : Nat) (i j : Int) (on : Bool) (hn : 500 < n) (hn2 : n ≤ 9223372036854775807) :
    Calls Try.prog 4 #[.slice ao n c, .int .i64 i, .int .i64 j, .bool on] w fun e w' => e = .returned (.bool true) ∧ Below w.heap.size w w' := by
  have HA := Hid.mk (alive_any w)
  have h5 : (500 : Int) < (n : Int) := by omega
  go_enter Try.func4, Try.ntmps4
  go_wp2_with (go_at_call 6; refine HA.out.mono ?_; rintro e w1 ⟨rfl, hB⟩)
  go_ret
  exact ⟨rfl, hB⟩

set_option maxRecDepth 100000 in
set_option maxHeartbeats 8000000 in
theorem turn_yes (w : World) (ao : Option Addr) (n c : Nat) (xs : List Int) (h : BAt w ao n xs) (hx : ∀ x ∈ xs, 0 ≤ x ∧ x ≤ 255) (hnone : ao = none → n = 0 ∧ c = 0) (hn : n ≤ 500) (q : Nat) (hq : q / 8 < n) (j : Int) (hj : I64 j) (on was : Bool) (hwas : getI xs (q : Int) = was) :
    Calls Try.prog 4 #[.slice ao n c, .int .i64 q, .int .i64 j, .bool on] w fun e w' => e = .returned (.bool true) ∧ Below w.heap.size w w' := by
  have hi : I64 (q : Int) := ⟨by omega, by omega⟩
  have HA := Hid.mk (alive_any w)
  have HW := Hid.mk (fun W (hB : Below w.heap.size w W) => tw_with w W ao n c xs h hx hnone hn q hi on hB)
  have hlen := h.1
  have hh : hasI xs.length (q : Int) = true := by rw [hlen, hasI_nat]; simpa using hq
  have hy := withI_bound xs (q : Int) on hx
  have hg := cnt_gain xs (q : Int) on hx
  rw [hh, hwas, hlen] at hg
  have gi : getI (withI xs (q : Int) on) (q : Int) = on := by rw [getI_with _ _ _ _ hx, if_pos ⟨hh, rfl⟩]
  have gj : (q : Int) ≠ j → getI (withI xs (q : Int) on) j = getI xs j := fun hne => by rw [getI_with _ _ _ _ hx, if_neg (fun h => hne h.2.symm)]
  obtain ⟨ys, hys⟩ : ∃ ys, ys = withI xs (q : Int) on := ⟨_, rfl⟩
  rw [← hys] at HW hy hg gi gj
  obtain ⟨cy, hcy⟩ : ∃ cy, cntN ys (8 * n) = cy := ⟨_, rfl⟩
  obtain ⟨cx, hcx⟩ : ∃ cx, cntN xs (8 * n) = cx := ⟨_, rfl⟩
  have cyl : cy ≤ 8 * n := by rw [← hcy]; exact cntN_le _ _
  have cxl : cx ≤ 8 * n := by rw [← hcx]; exact cntN_le _ _
  rw [hcy, hcx] at hg
  have hwd : IntKind.i64.wrap ((cy : Int) - (cx : Int)) = (cy : Int) - (cx : Int) := by rw [IntKind.wrap_i64]; omega
  obtain ⟨gb, hgb⟩ : ∃ gb, getI xs j = gb := ⟨_, rfl⟩
  rw [hgb] at gj
  have HG1 := Hid.mk (fun ao' W c' (ht : TW w xs ys ao n ao' W) => ht.get1 hy c' (q : Int) hi on gi)
  have HG2 := Hid.mk (fun ao' W (ht : TW w xs ys ao n ao' W) => ht.get2 hx c (q : Int) hi was hwas)
  have HC1 := Hid.mk (fun ao' W c' (ht : TW w xs ys ao n ao' W) => ht.count1 hy hn c' cy hcy)
  have HC2 := Hid.mk (fun ao' W (ht : TW w xs ys ao n ao' W) => ht.count2 hx hn c cx hcx)
  have HJ1 := Hid.mk (fun (hne : (q : Int) ≠ j) ao' W c' (ht : TW w xs ys ao n ao' W) => ht.get1 hy c' j hj gb (gj hne))
  have HJ2 := Hid.mk (fun ao' W (ht : TW w xs ys ao n ao' W) => ht.get2 hx c j hj gb hgb)
  have hw8 : IntKind.i64.wrap ((q : Int) / 8) = (q : Int) / 8 := by rw [IntKind.wrap_i64]; omega
  have h08 : (0 : Int) ≤ (q : Int) / 8 := by omega
  have hq3 : (q : Int) / 8 < n := by omega
  have hwn : IntKind.i64.wrap (8 * (n : Int)) = 8 * (n : Int) := by rw [IntKind.wrap_i64]; omega
  have hn5 : decide ((500 : Int) < (n : Int)) = false := decide_eq_false (by omega)
  have hq0 : decide ((0 : Int) ≤ (q : Int)) = true := decide_eq_true (by omega)
  clear hgb gj gi hcy hcx hys hh hy hlen hnone hx h hwas hi cyl cxl hj
  by_cases hij : (q : Int) = j
  · subst hij
    clear HJ1 HJ2 gb
    cases on <;> cases was
    all_goals
      simp [gain] at hg
      go_enter Try.func4, Try.ntmps4
      go_wp2_with (first
      | (go_at_call 6; refine HA.out.mono ?_; rintro e w1 ⟨rfl, hB⟩; have HB := Hid.mk hB; clear hB)
      | (go_at_call 7; refine (HW.out _ HB.out).mono ?_; rintro e w2 ⟨ao', c', rfl, ht⟩; have HT := Hid.mk ht; clear ht)
      | (go_at_call_of 11 ao'; refine (HG1.out _ _ _ HT.out).mono ?_; rintro e w2 ⟨rfl, ht⟩; have HT := Hid.mk ht; clear ht)
      | (go_at_call_of 11 ao; refine (HG2.out _ _ HT.out).mono ?_; rintro e w2 ⟨rfl, ht⟩; have HT := Hid.mk ht; clear ht)
      | (go_at_call_of 13 ao'; refine (HC1.out _ _ _ HT.out).mono ?_; rintro e w2 ⟨rfl, ht⟩; have HT := Hid.mk ht; clear ht)
      | (go_at_call_of 13 ao; refine (HC2.out _ _ HT.out).mono ?_; rintro e w2 ⟨rfl, ht⟩; have HT := Hid.mk ht; clear ht))
      go_ret
      exact ⟨rfl, HT.out.2.2⟩
  · cases on <;> cases was
    all_goals
      simp [gain] at hg
      cases gb
      all_goals
        go_enter Try.func4, Try.ntmps4
        go_wp2_with (first
      | (go_at_call 6; refine HA.out.mono ?_; rintro e w1 ⟨rfl, hB⟩; have HB := Hid.mk hB; clear hB)
      | (go_at_call 7; refine (HW.out _ HB.out).mono ?_; rintro e w2 ⟨ao', c', rfl, ht⟩; have HT := Hid.mk ht; clear ht)
      | (go_at_call_of 11 j; go_at_call_of 11 ao'; refine (HJ1.out hij _ _ _ HT.out).mono ?_; rintro e w2 ⟨rfl, ht⟩; have HT := Hid.mk ht; clear ht)
      | (go_at_call_of 11 j; go_at_call_of 11 ao; refine (HJ2.out _ _ HT.out).mono ?_; rintro e w2 ⟨rfl, ht⟩; have HT := Hid.mk ht; clear ht)
      | (go_at_call_of 11 ao'; refine (HG1.out _ _ _ HT.out).mono ?_; rintro e w2 ⟨rfl, ht⟩; have HT := Hid.mk ht; clear ht)
      | (go_at_call_of 11 ao; refine (HG2.out _ _ HT.out).mono ?_; rintro e w2 ⟨rfl, ht⟩; have HT := Hid.mk ht; clear ht)
      | (go_at_call_of 13 ao'; refine (HC1.out _ _ _ HT.out).mono ?_; rintro e w2 ⟨rfl, ht⟩; have HT := Hid.mk ht; clear ht)
      | (go_at_call_of 13 ao; refine (HC2.out _ _ HT.out).mono ?_; rintro e w2 ⟨rfl, ht⟩; have HT := Hid.mk ht; clear ht))
        go_ret
        exact ⟨rfl, HT.out.2.2⟩

set_option maxRecDepth 100000 in
set_option maxHeartbeats 8000000 in
theorem turn_no (w : World) (ao : Option Addr) (n c : Nat) (xs : List Int) (h : BAt w ao n xs) (hx : ∀ x ∈ xs, 0 ≤ x ∧ x ≤ 255) (hnone : ao = none → n = 0 ∧ c = 0) (hn : n ≤ 500) (i : Int) (hi : I64 i) (hno : hasI n i = false) (j : Int) (hj : I64 j) (on : Bool) :
    Calls Try.prog 4 #[.slice ao n c, .int .i64 i, .int .i64 j, .bool on] w fun e w' => e = .returned (.bool true) ∧ Below w.heap.size w w' := by
  have HA := Hid.mk (alive_any w)
  have HW := Hid.mk (fun W (hB : Below w.heap.size w W) => tw_with w W ao n c xs h hx hnone hn i hi on hB)
  have hlen := h.1
  have hys : withI xs i on = xs := by unfold withI; rw [hlen, hno]; simp
  rw [hys] at HW
  have gi : getI xs i = false := getI_no xs i (by rw [hlen]; exact hno)
  obtain ⟨cx, hcx⟩ : ∃ cx, cntN xs (8 * n) = cx := ⟨_, rfl⟩
  have cxl : cx ≤ 8 * n := by rw [← hcx]; exact cntN_le _ _
  have hg : (cx : Int) - (cx : Int) = 0 := by omega
  have hwd : IntKind.i64.wrap ((cx : Int) - (cx : Int)) = 0 := by rw [IntKind.wrap_i64]; omega
  obtain ⟨gb, hgb⟩ : ∃ gb, getI xs j = gb := ⟨_, rfl⟩
  have HG1 := Hid.mk (fun ao' W c' (ht : TW w xs xs ao n ao' W) => ht.get1 hx c' i hi false gi)
  have HG2 := Hid.mk (fun ao' W (ht : TW w xs xs ao n ao' W) => ht.get2 hx c i hi false gi)
  have HC1 := Hid.mk (fun ao' W c' (ht : TW w xs xs ao n ao' W) => ht.count1 hx hn c' cx hcx)
  have HC2 := Hid.mk (fun ao' W (ht : TW w xs xs ao n ao' W) => ht.count2 hx hn c cx hcx)
  have HJ1 := Hid.mk (fun (_ : ¬ i = j) ao' W c' (ht : TW w xs xs ao n ao' W) => ht.get1 hx c' j hj gb hgb)
  have HJ2 := Hid.mk (fun ao' W (ht : TW w xs xs ao n ao' W) => ht.get2 hx c j hj gb hgb)
  have hwn : IntKind.i64.wrap (8 * (n : Int)) = 8 * (n : Int) := by rw [IntKind.wrap_i64]; omega
  have hn5 : decide ((500 : Int) < (n : Int)) = false := decide_eq_false (by omega)
  clear hgb gi hcx hys hlen hnone hx h cxl hj
  by_cases h0 : 0 ≤ i
  · obtain ⟨hi1, hi2⟩ := hi
    obtain ⟨q, rfl⟩ : ∃ q : Nat, i = q := ⟨i.toNat, by omega⟩
    rw [hasI_nat] at hno
    simp at hno
    have hw8 : IntKind.i64.wrap ((q : Int) / 8) = (q : Int) / 8 := by rw [IntKind.wrap_i64]; omega
    have hq3 : decide ((q : Int) / 8 < n) = false := decide_eq_false (by omega)
    have hq0 : decide ((0 : Int) ≤ (q : Int)) = true := decide_eq_true (by omega)
    clear hno h0 hi1 hi2
    by_cases hij : (q : Int) = j
    · subst hij
      clear HJ1 HJ2 gb
      cases on
      all_goals
        skip
        go_enter Try.func4, Try.ntmps4
        go_wp2_with (first
        | (go_at_call 6; refine HA.out.mono ?_; rintro e w1 ⟨rfl, hB⟩; have HB := Hid.mk hB; clear hB)
        | (go_at_call 7; refine (HW.out _ HB.out).mono ?_; rintro e w2 ⟨ao', c', rfl, ht⟩; have HT := Hid.mk ht; clear ht)
        | (go_at_call_of 11 ao'; refine (HG1.out _ _ _ HT.out).mono ?_; rintro e w2 ⟨rfl, ht⟩; have HT := Hid.mk ht; clear ht)
        | (go_at_call_of 11 ao; refine (HG2.out _ _ HT.out).mono ?_; rintro e w2 ⟨rfl, ht⟩; have HT := Hid.mk ht; clear ht)
        | (go_at_call_of 13 ao'; refine (HC1.out _ _ _ HT.out).mono ?_; rintro e w2 ⟨rfl, ht⟩; have HT := Hid.mk ht; clear ht)
        | (go_at_call_of 13 ao; refine (HC2.out _ _ HT.out).mono ?_; rintro e w2 ⟨rfl, ht⟩; have HT := Hid.mk ht; clear ht))
        go_ret
        exact ⟨rfl, HT.out.2.2⟩
    · cases on
      all_goals
        skip
        cases gb
        all_goals
          go_enter Try.func4, Try.ntmps4
          go_wp2_with (first
        | (go_at_call 6; refine HA.out.mono ?_; rintro e w1 ⟨rfl, hB⟩; have HB := Hid.mk hB; clear hB)
        | (go_at_call 7; refine (HW.out _ HB.out).mono ?_; rintro e w2 ⟨ao', c', rfl, ht⟩; have HT := Hid.mk ht; clear ht)
        | (go_at_call_of 11 j; go_at_call_of 11 ao'; refine (HJ1.out hij _ _ _ HT.out).mono ?_; rintro e w2 ⟨rfl, ht⟩; have HT := Hid.mk ht; clear ht)
        | (go_at_call_of 11 j; go_at_call_of 11 ao; refine (HJ2.out _ _ HT.out).mono ?_; rintro e w2 ⟨rfl, ht⟩; have HT := Hid.mk ht; clear ht)
        | (go_at_call_of 11 ao'; refine (HG1.out _ _ _ HT.out).mono ?_; rintro e w2 ⟨rfl, ht⟩; have HT := Hid.mk ht; clear ht)
        | (go_at_call_of 11 ao; refine (HG2.out _ _ HT.out).mono ?_; rintro e w2 ⟨rfl, ht⟩; have HT := Hid.mk ht; clear ht)
        | (go_at_call_of 13 ao'; refine (HC1.out _ _ _ HT.out).mono ?_; rintro e w2 ⟨rfl, ht⟩; have HT := Hid.mk ht; clear ht)
        | (go_at_call_of 13 ao; refine (HC2.out _ _ HT.out).mono ?_; rintro e w2 ⟨rfl, ht⟩; have HT := Hid.mk ht; clear ht))
          go_ret
          exact ⟨rfl, HT.out.2.2⟩
  · have hq0 : decide ((0 : Int) ≤ i) = false := decide_eq_false h0
    clear hno h0 hi
    by_cases hij : i = j
    · subst hij
      clear HJ1 HJ2 gb
      cases on
      all_goals
        skip
        go_enter Try.func4, Try.ntmps4
        go_wp2_with (first
        | (go_at_call 6; refine HA.out.mono ?_; rintro e w1 ⟨rfl, hB⟩; have HB := Hid.mk hB; clear hB)
        | (go_at_call 7; refine (HW.out _ HB.out).mono ?_; rintro e w2 ⟨ao', c', rfl, ht⟩; have HT := Hid.mk ht; clear ht)
        | (go_at_call_of 11 ao'; refine (HG1.out _ _ _ HT.out).mono ?_; rintro e w2 ⟨rfl, ht⟩; have HT := Hid.mk ht; clear ht)
        | (go_at_call_of 11 ao; refine (HG2.out _ _ HT.out).mono ?_; rintro e w2 ⟨rfl, ht⟩; have HT := Hid.mk ht; clear ht)
        | (go_at_call_of 13 ao'; refine (HC1.out _ _ _ HT.out).mono ?_; rintro e w2 ⟨rfl, ht⟩; have HT := Hid.mk ht; clear ht)
        | (go_at_call_of 13 ao; refine (HC2.out _ _ HT.out).mono ?_; rintro e w2 ⟨rfl, ht⟩; have HT := Hid.mk ht; clear ht))
        go_ret
        exact ⟨rfl, HT.out.2.2⟩
    · cases on
      all_goals
        skip
        cases gb
        all_goals
          go_enter Try.func4, Try.ntmps4
          go_wp2_with (first
        | (go_at_call 6; refine HA.out.mono ?_; rintro e w1 ⟨rfl, hB⟩; have HB := Hid.mk hB; clear hB)
        | (go_at_call 7; refine (HW.out _ HB.out).mono ?_; rintro e w2 ⟨ao', c', rfl, ht⟩; have HT := Hid.mk ht; clear ht)
        | (go_at_call_of 11 j; go_at_call_of 11 ao'; refine (HJ1.out hij _ _ _ HT.out).mono ?_; rintro e w2 ⟨rfl, ht⟩; have HT := Hid.mk ht; clear ht)
        | (go_at_call_of 11 j; go_at_call_of 11 ao; refine (HJ2.out _ _ HT.out).mono ?_; rintro e w2 ⟨rfl, ht⟩; have HT := Hid.mk ht; clear ht)
        | (go_at_call_of 11 ao'; refine (HG1.out _ _ _ HT.out).mono ?_; rintro e w2 ⟨rfl, ht⟩; have HT := Hid.mk ht; clear ht)
        | (go_at_call_of 11 ao; refine (HG2.out _ _ HT.out).mono ?_; rintro e w2 ⟨rfl, ht⟩; have HT := Hid.mk ht; clear ht)
        | (go_at_call_of 13 ao'; refine (HC1.out _ _ _ HT.out).mono ?_; rintro e w2 ⟨rfl, ht⟩; have HT := Hid.mk ht; clear ht)
        | (go_at_call_of 13 ao; refine (HC2.out _ _ HT.out).mono ?_; rintro e w2 ⟨rfl, ht⟩; have HT := Hid.mk ht; clear ht))
          go_ret
          exact ⟨rfl, HT.out.2.2⟩

theorem turn_any (w : World) (ao : Option Addr) (n c : Nat) (xs : List Int) (h : BAt w ao n xs) (hx : ∀ x ∈ xs, 0 ≤ x ∧ x ≤ 255) (hnone : ao = none → n = 0 ∧ c = 0) (hbig : n ≤ 9223372036854775807) (i j : Int) (hi : I64 i) (hj : I64 j) (on : Bool) :
    Calls Try.prog 4 #[.slice ao n c, .int .i64 i, .int .i64 j, .bool on] w fun e w' => e = .returned (.bool true) ∧ Below w.heap.size w w' := by
  by_cases hn : 500 < n
  · exact turn_long w ao n c i j on hn hbig
  · cases hh : hasI n i with
    | false => exact turn_no w ao n c xs h hx hnone (by omega) i hi hh j hj on
    | true =>
      simp [hasI] at hh
      obtain ⟨q, rfl⟩ : ∃ q : Nat, i = q := ⟨i.toNat, by omega⟩
      exact turn_yes w ao n c xs h hx hnone (by omega) q (by simpa using hh.2) j hj on _ rfl
end Go.Proofs.Ytpcafjaajklkoaa
