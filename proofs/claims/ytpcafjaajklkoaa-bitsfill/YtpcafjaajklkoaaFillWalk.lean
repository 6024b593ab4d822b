/-
  BitsFill: taking the first free bit, again and again.
-/
import Derived.Test.YtpcafjaajklkoaaRef
import Derived.ChangeOld
namespace Go.Proofs.Ytpcafjaajklkoaa
open Go Go.Proofs Go.RowKit Go.Shelf

/-- The first i bits are 1, no other one. -/
def Filled (ys : List Int) (i : Nat) : Prop := (∀ x ∈ ys, 0 ≤ x ∧ x ≤ 255) ∧ ∀ q, getN ys q = decide (q < i)

theorem Filled.first {ys : List Int} {i E : Nat} (h : Filled ys i) (hi : i < E) : fstN ys E 0 = some i := by
  unfold fstN
  have e : E - 0 = i + (1 + (E - i - 1)) := by omega
  rw [e, ← List.range'_append_1, List.find?_append]
  have h1 : (List.range' 0 i).find? (fun q => !getN ys q) = none := by
    rw [List.find?_eq_none]
    intro q hq
    rw [h.2 q]
    have := (List.mem_range'_1.1 hq).2
    simp
    omega
  rw [h1, Nat.add_comm 1, List.range'_succ, List.find?_cons]
  have h2 : getN ys i = false := by rw [h.2]; simp
  simp [h2]

theorem Filled.none {ys : List Int} {i E : Nat} (h : Filled ys i) (hi : E ≤ i) : fstN ys E 0 = none := by
  unfold fstN
  rw [List.find?_eq_none]
  intro q hq
  rw [h.2 q]
  have := (List.mem_range'_1.1 hq).2
  simp
  omega

theorem Filled.count {ys : List Int} {i E : Nat} (h : Filled ys i) (hi : E = i) : cntN ys E = i := by
  unfold cntN
  subst hi
  rw [List.countP_eq_length.2]
  · simp
  · intro q hq
    rw [h.2]
    simpa using hq

theorem Filled.step {ys : List Int} {i : Nat} (h : Filled ys i) (hi : i < 8 * ys.length) : Filled (withI ys (i : Int) true) (i + 1) := by
  refine ⟨withI_bound _ _ _ h.1, fun q => ?_⟩
  rw [getN_with _ _ _ _ h.1, h.2 q, hasI_nat, decide_eq_true (show i / 8 < ys.length by omega)]
  by_cases e : q = i
  · subst e; simp
  · have e' : ¬ ((q : Int) = (i : Int)) := by omega
    simp [e']
    omega

def zeros (n : Nat) : List Int := List.replicate n 0
theorem zeros_len (n : Nat) : (zeros n).length = n := by unfold zeros; exact List.length_replicate

theorem zeros_filled (m : Nat) : Filled (zeros m) 0 := by
  refine ⟨fun x hx => ?_, fun q => ?_⟩
  · obtain rfl := (List.mem_replicate.1 hx).2
    decide
  · unfold getN bitB zeros
    rw [List.getD, List.getElem?_replicate]
    split <;> simp

theorem owns_nil {w : World} {base : Nat} {n c : Nat} {xs : List Value} (h : w.ownsRow base 5 1 (.slice none n c) n xs) : n = 0 ∧ c = 0 := by
  rcases h.2 with ⟨e, _⟩ | ⟨_, _, _, e, _⟩
  · cases e; exact ⟨rfl, rfl⟩
  · cases e

theorem fill_bad (w : World) (m n : Int) (h : ¬ (0 ≤ m ∧ m ≤ 40 ∧ 0 ≤ n ∧ n ≤ 400)) :
    Calls Try.prog 5 #[.int .i64 m, .int .i64 n] w fun e w' => e = .returned (.bool true) ∧ Below w.heap.size w w' := by
  have HA := Hid.mk (alive_any w)
  go_enter Try.func5, Try.ntmps5
  go_wp2_with (go_at_call 6; refine HA.out.mono ?_; rintro e w1 ⟨rfl, hB⟩)
  all_goals first | omega | (go_ret; exact ⟨rfl, hB⟩)

theorem bndI_nat (xs : List Int) (n : Nat) : bndI xs (n : Int) = min n (8 * xs.length) := by simp [bndI]

/-- Between two rounds. -/
def FR (w : World) (m N : Nat) (b : Value) (i : Nat) (W : World) : Prop :=
  ∃ ys, i ≤ min N (8 * m) ∧ W.ownsRow w.heap.size 5 1 b m (By ys) ∧ Filled ys i ∧ Below w.heap.size w W

theorem FR.calls {w : World} {m N i : Nat} {b : Value} {W : World} (h : FR w m N b i W) (hm : m ≤ 40) (hN : N ≤ 400) : ∃ ao c, b = .slice ao m c ∧
    Calls Try.prog 9 #[.slice ao m c, .int .i64 N, .int .i64 0] W (fun e W' => e = .returned (if i < min N (8 * m) then .tuple #[.int .i64 i, .bool true] else .tuple #[.int .i64 0, .bool false]) ∧ FR w m N b i W') ∧
    (i < min N (8 * m) → Calls Try.prog 7 #[.slice ao m c, .int .i64 i, .bool true] W (fun e W' => ∃ v', e = .returned v' ∧ FR w m N v' (i + 1) W')) ∧
    (i = min N (8 * m) → Calls Try.prog 13 #[.slice ao m c, .int .i64 N] W (fun e W' => e = .returned (.int .i64 i) ∧ Below w.heap.size w W')) := by
  obtain ⟨ys, hi, hown, hf, hB⟩ := h
  obtain ⟨ao, c, rfl, hb, _, _⟩ := owns_BAt hown
  have hlen := hb.1
  have hE : bndI ys (N : Int) = min N (8 * m) := by rw [bndI_nat, hlen]
  have hnone : ao = none → m = 0 ∧ c = 0 := fun e => by subst e; exact owns_nil hown
  refine ⟨ao, c, rfl, ?_, ?_, ?_⟩
  · refine (first_any W ao m c ys hb hf.1 (by omega) N 0 ⟨by omega, by omega⟩ ⟨by omega, by omega⟩).mono ?_
    rintro e W' ⟨rfl, hB'⟩
    refine ⟨?_, ys, hi, owns_at hown (fun k hk => hB'.block k (owns_isC hown k hk).lt), hf, hB.trans (hB'.mono hB.size)⟩
    rw [hE, show bFrom 0 = 0 from rfl]
    by_cases h : i < min N (8 * m)
    · rw [if_pos h, hf.first h]; rfl
    · rw [if_neg h, hf.none (by omega)]; rfl
  · intro h
    refine (with_any W ao m c i ⟨by omega, by omega⟩ true ys hb hf.1 hnone (by omega)).mono ?_
    rintro e W' ⟨v', rfl, hown', hB'⟩
    exact ⟨v', rfl, _, by omega, owns_base hown' hB.size, hf.step (by omega), hB.trans (hB'.mono hB.size)⟩
  · intro h
    refine (count_any W ao m c ys hb hf.1 (by omega) N ⟨by omega, by omega⟩).mono ?_
    rintro e W' ⟨rfl, hB'⟩
    rw [hE, hf.count h.symm]
    exact ⟨rfl, hB.trans (hB'.mono hB.size)⟩

set_option maxHeartbeats 2000000 in
theorem fill_good (w : World) (m N : Nat) (hm : m ≤ 40) (hN : N ≤ 400) :
    Calls Try.prog 5 #[.int .i64 m, .int .i64 N] w fun e w' => e = .returned (.bool true) ∧ Below w.heap.size w w' := by
  have HA := Hid.mk (alive_any w)
  obtain ⟨i0, hi, hz0, hz1, hz2⟩ := info5p
  obtain ⟨M, hM⟩ : ∃ M, M = min N (8 * m) := ⟨_, rfl⟩
  have b1 : decide ((m : Int) < 0) = false := decide_eq_false (by omega)
  have b2 : decide ((40 : Int) < (m : Int)) = false := decide_eq_false (by omega)
  have b3 : decide ((N : Int) < 0) = false := decide_eq_false (by omega)
  have b4 : decide ((400 : Int) < (N : Int)) = false := decide_eq_false (by omega)
  have hw8 : IntKind.i64.wrap (8 * (m : Int)) = 8 * (m : Int) := by rw [IntKind.wrap_i64]; omega
  have MK : Hid (∀ w1 w3 : World, w3.ownsRow w1.heap.size 5 1 (.slice (some ⟨w1.heap.size, 0, none⟩) m m) m (madeCells (Value.int .u8 0).cells (m * 1)).toList → w1.grownBy w3 none → Below w.heap.size w w1 → FR w m N (.slice (some ⟨w1.heap.size, 0, none⟩) m m) 0 w3) := Hid.mk (fun w1 w3 hown hg hB => by
    refine ⟨zeros m, by omega, ?_, zeros_filled m, hB.trans (((Below.refl _ w1).grown hg (Nat.le_refl _) (by simp)).mono hB.size)⟩
    rw [Nat.mul_one, show (Value.int .u8 0).cells = #[Value.int .u8 0] from rfl, toList_madeCells_one] at hown
    have e : By (zeros m) = List.replicate m (Value.int .u8 0) := by simp [By, zeros]
    rw [e]
    exact owns_base hown hB.size)
  have hNM : ∀ k : Nat, k < M → (k : Int) < N ∧ (k : Int) < 8 * (m : Int) := fun k hk => by omega
  have HNM := Hid.mk hNM
  have hM1 : M ≤ 400 := by omega
  have HM := Hid.mk hM
  clear hNM
  cases hdc : decide ((N : Int) < 8 * (m : Int))
  all_goals
    go_enter Try.func5, Try.ntmps5
    go_wp2_with (first | (go_at_call 6; refine HA.out.mono ?_; rintro e w1 ⟨rfl, hB⟩; have HB := Hid.mk hB; clear hB) | (at_make; refine wpList_make_full _ rfl _ _ 22 rfl w1.heap.size 5 i0 (.int .u8 0) 1 Try.underlying22 hi hz0 hz1 .i64 .i64 _ _ m rfl rfl rfl rfl (by rw [hz2]; omega) (by unfold maxLen; omega) (Nat.le_refl _) ?_; intro w3 hown hg; have HF := Hid.mk (MK.out w1 w3 hown hg HB.out); clear hown hg))
    clear MK HA b1 b2 b3 b4
    go_loopw [6, 8] (fun b i wr => ∃ k : Nat, k ≤ M ∧ i = .int .i64 (k : Int) ∧ Hid (FR w m N b k wr)) (fun _ i _ => M - (intOf i).toNat)
    case atStart => exact ⟨0, by omega, rfl, HF⟩
    case round =>
      obtain ⟨k, hkM, rfl, hf⟩ := hrel
      obtain ⟨ao, c, rfl, h9, -, -⟩ := hf.out.calls hm hN
      by_cases hk : k < M
      · rw [if_pos (by rw [← hM]; exact hk)] at h9
        have H9 := Hid.mk h9
        obtain ⟨hk1, hk2⟩ := HNM.out k hk
        have hw1 : IntKind.i64.wrap ((k : Int) + 1) = (k : Int) + 1 := by rw [IntKind.wrap_i64]; omega
        clear h9 hM
        go_wp2_with (first | (go_at_call 9; refine H9.out.mono ?_; rintro e W1 ⟨rfl, hf1⟩; obtain ⟨ao1, c1, e1, -, h71, -⟩ := hf1.calls hm hN; cases e1; have H7 := Hid.mk (h71 (by rw [← HM.out]; exact hk)); clear hf1 h71) | (go_at_call 7; refine H7.out.mono ?_; rintro e W2 ⟨v', rfl, hf2⟩; obtain ⟨ao2, c2, rfl, -, -, -⟩ := hf2.calls hm hN; have HF2 := Hid.mk hf2; clear hf2))
        go_roundw
        case rel => exact ⟨k + 1, by omega, by go_num, HF2⟩
        case measure => (simp [intOf]; omega)
      · rw [if_neg (by rw [← hM]; exact hk)] at h9
        have H9 := Hid.mk h9
        obtain rfl : k = M := by omega
        clear h9
        first
          | (have hkE : (k : Int) = (N : Int) := by (have := of_decide_eq_true hdc; omega))
          | (have hkE : (k : Int) = 8 * (m : Int) := by (have := of_decide_eq_false hdc; omega))
        clear hM hk hkM hM1 hdc HNM
        go_wp2_with (first | (go_at_call 9; refine H9.out.mono ?_; rintro e W1 ⟨rfl, hf1⟩; obtain ⟨ao1, c1, e1, -, -, h13⟩ := hf1.calls hm hN; cases e1; have H13 := Hid.mk (h13 HM.out); clear hf1 h13) | (go_at_call 13; refine H13.out.mono ?_; rintro e W2 ⟨rfl, hB2⟩))
        go_ret
        exact ⟨rfl, hB2⟩

theorem fill_any (w : World) (m n : Int) : Calls Try.prog 5 #[.int .i64 m, .int .i64 n] w fun e w' => e = .returned (.bool true) ∧ Below w.heap.size w w' := by
  by_cases h : 0 ≤ m ∧ m ≤ 40 ∧ 0 ≤ n ∧ n ≤ 400
  · obtain ⟨p, rfl⟩ : ∃ p : Nat, m = p := ⟨m.toNat, by omega⟩
    obtain ⟨q, rfl⟩ : ∃ q : Nat, n = q := ⟨n.toNat, by omega⟩
    exact fill_good w p q (by omega) (by omega)
  · exact fill_bad w m n h
end Go.Proofs.Ytpcafjaajklkoaa
