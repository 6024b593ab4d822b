/-
  Rows of bits cut off behind their last bit: the numbers behind heads of groups.
-/
import Derived.Test.YtejnmpnioeamhaaGreatLaySup
import Derived.Lib.SmallJoins
namespace Go.Proofs.YtejnmpnioeamhaaGreat
open Go Go.Proofs Go.RowKit Go.Shelf
namespace Sup
/-- The first N bits of a row, in so many bytes: what is not there is 0. -/
def maskL (xs : List Int) (N size : Nat) : List Int := (List.range size).map (fun i => if i < N / 8 then xs.getD i 0 else if i = N / 8 then xs.getD i 0 % 2 ^ (N % 8) else 0)
/-- The first bytes of a row, in so many bytes. -/
def padL (xs : List Int) (k size : Nat) : List Int := (List.range size).map (fun i => if i < k then xs.getD i 0 else 0)
theorem maskL_length (xs : List Int) (N size : Nat) : (maskL xs N size).length = size := by simp [maskL]
theorem padL_length (xs : List Int) (k size : Nat) : (padL xs k size).length = size := by simp [padL]
theorem maskL_get (xs : List Int) (N size i : Nat) (h : i < size) : (maskL xs N size).getD i 0 = if i < N / 8 then xs.getD i 0 else if i = N / 8 then xs.getD i 0 % 2 ^ (N % 8) else 0 := by
  simp [maskL, List.getD, h]
theorem padL_get (xs : List Int) (k size i : Nat) (h : i < size) : (padL xs k size).getD i 0 = if i < k then xs.getD i 0 else 0 := by
  simp [padL, List.getD, h]
theorem getD_ext (xs ys : List Int) (hl : xs.length = ys.length) (h : ∀ i, i < xs.length → xs.getD i 0 = ys.getD i 0) : xs = ys := by
  apply List.ext_getElem hl
  intro i h1 h2
  have := h i h1
  simpa [List.getD, List.getElem?_eq_getElem h1, List.getElem?_eq_getElem h2] using this
theorem zeros_get (n i : Nat) : (zeros n).getD i 0 = 0 := by
  by_cases h : i < n
  · simp [zeros, List.getD, h]
  · simp [zeros, List.getD, h]
theorem getD_app (xs ys : List Int) (i : Nat) : (xs ++ ys).getD i 0 = if i < xs.length then xs.getD i 0 else ys.getD (i - xs.length) 0 := by
  by_cases h : i < xs.length
  · simp [List.getD, List.getElem?_append_left h, h]
  · simp [List.getD, List.getElem?_append_right (Nat.le_of_not_lt h), h]
set_option maxRecDepth 100000 in
theorem pad_splice (xs : List Int) (k size n m : Nat) (hn : xs.length = n) (hk : k ≤ size) (hm : m = min n k) : splice (zeros size) 0 (xs.take m) = padL xs k size := by
  have hl : (xs.take m).length = m := by simp; omega
  apply getD_ext
  · rw [splice_length _ _ _ (by rw [hl, zeros_length]; omega), zeros_length, padL_length]
  · intro i hi
    rw [splice_length _ _ _ (by rw [hl, zeros_length]; omega), zeros_length] at hi
    rw [padL_get _ _ _ _ hi]
    unfold splice
    rw [List.take_zero, List.nil_append, getD_app, hl]
    by_cases h1 : i < m
    · rw [if_pos h1, if_pos (by omega)]
      simp [List.getD, h1]
    · rw [if_neg h1]
      have : (List.drop (0 + m) (zeros size)).getD (i - m) 0 = 0 := by
        have h := zeros_get size (m + (i - m))
        simpa [List.getD] using h
      rw [this]
      by_cases h2 : i < k
      · rw [if_pos h2]
        simp [List.getD, List.getElem?_eq_none (show xs.length ≤ i by omega)]
      · rw [if_neg h2]
set_option maxRecDepth 100000 in
theorem mask_even (xs : List Int) (N size : Nat) (h : N % 8 = 0) : padL xs (N / 8) size = maskL xs N size := by
  apply getD_ext
  · rw [padL_length, maskL_length]
  · intro i hi
    rw [padL_length] at hi
    rw [padL_get _ _ _ _ hi, maskL_get _ _ _ _ hi, h]
    by_cases h1 : i < N / 8
    · rw [if_pos h1, if_pos h1]
    · rw [if_neg h1, if_neg h1]
      by_cases h2 : i = N / 8
      · rw [if_pos h2]; simp
      · rw [if_neg h2]
set_option maxRecDepth 100000 in
theorem mask_odd (xs : List Int) (N size : Nat) (hs : N / 8 < size) : (padL xs (N / 8 + 1) size).set (N / 8) (xs.getD (N / 8) 0 % 2 ^ (N % 8)) = maskL xs N size := by
  apply getD_ext
  · rw [List.length_set, padL_length, maskL_length]
  · intro i hi
    rw [List.length_set, padL_length] at hi
    rw [maskL_get _ _ _ _ hi]
    by_cases h2 : i = N / 8
    · subst h2
      rw [if_neg (by omega), if_pos rfl]
      simp [List.getD, padL_length, hs]
    · have e : ((padL xs (N / 8 + 1) size).set (N / 8) (xs.getD (N / 8) 0 % 2 ^ (N % 8))).getD i 0 = (padL xs (N / 8 + 1) size).getD i 0 := by
        simp only [List.getD]
        rw [List.getElem?_set_ne (Ne.symm h2)]
      rw [e, padL_get _ _ _ _ hi, if_neg h2]
      by_cases h1 : i < N / 8
      · rw [if_pos h1, if_pos (by omega)]
      · rw [if_neg h1, if_neg (by omega)]
set_option maxRecDepth 100000 in
theorem maskL_bound (xs : List Int) (N size : Nat) (h : ∀ x ∈ xs, 0 ≤ x ∧ x ≤ 255) : ∀ x ∈ maskL xs N size, 0 ≤ x ∧ x ≤ 255 := by
  intro x hx
  obtain ⟨i, _, rfl⟩ := List.mem_map.1 hx
  have hb := getD_bound xs h i
  have hp : (0 : Int) < 2 ^ (N % 8) := Int.pow_pos (by decide)
  split
  · exact hb
  · split
    · refine ⟨Int.emod_nonneg _ (by omega), ?_⟩
      have h1 := Int.emod_lt_of_pos (xs.getD i 0) hp
      rcases Int.lt_or_le (xs.getD i 0) (2 ^ (N % 8)) with h2 | h2
      · rw [Int.emod_eq_of_lt hb.1 h2]; exact hb.2
      · omega
    · omega
theorem padL_bound (xs : List Int) (k size : Nat) (h : ∀ x ∈ xs, 0 ≤ x ∧ x ≤ 255) : ∀ x ∈ padL xs k size, 0 ≤ x ∧ x ≤ 255 := by
  intro x hx
  obtain ⟨i, _, rfl⟩ := List.mem_map.1 hx
  have hb := getD_bound xs h i
  split
  · exact hb
  · omega
theorem zeros_add (a b : Nat) : zeros (a + b) = zeros a ++ zeros b := by simp [zeros]
set_option maxRecDepth 100000 in
theorem maskL_pad (xs : List Int) (N s t : Nat) (h : N ≤ 8 * s) : maskL xs N s ++ zeros t = maskL xs N (s + t) := by
  apply getD_ext
  · simp [maskL_length, zeros_length]
  · intro i hi
    simp only [List.length_append, maskL_length, zeros_length] at hi
    rw [maskL_get _ _ _ _ hi, getD_app, maskL_length]
    by_cases h1 : i < s
    · rw [if_pos h1, maskL_get _ _ _ _ h1]
    · rw [if_neg h1, zeros_get, if_neg (by omega)]
      by_cases h2 : i = N / 8
      · rw [if_pos h2]
        have : N % 8 = 0 := by omega
        rw [this]
        simp
      · rw [if_neg h2]
set_option maxRecDepth 100000 in
/-- What lies behind the bits is nothing to it. -/
theorem maskL_take (xs : List Int) (N size : Nat) : maskL (xs.take size) N size = maskL xs N size := by
  apply getD_ext
  · simp [maskL_length]
  · intro i hi
    rw [maskL_length] at hi
    rw [maskL_get _ _ _ _ hi, maskL_get _ _ _ _ hi]
    have : (xs.take size).getD i 0 = xs.getD i 0 := by simp [List.getD, hi]
    rw [this]
/-! bit by bit -/
set_option maxRecDepth 100000 in
theorem byte_ext (x y : Int) (hx : 0 ≤ x ∧ x ≤ 255) (hy : 0 ≤ y ∧ y ≤ 255) (h : ∀ k, k < 8 → bitB x k = bitB y k) : x = y := by
  have e : x.toNat = y.toNat := by
    apply Nat.eq_of_testBit_eq
    intro k
    by_cases hk : k < 8
    · exact h k hk
    · have h1 : ∀ z : Int, 0 ≤ z ∧ z ≤ 255 → z.toNat.testBit k = false := fun z hz => Nat.testBit_lt_two_pow (Nat.lt_of_lt_of_le (show z.toNat < 2 ^ 8 by omega) (Nat.pow_le_pow_right (by omega) (by omega)))
      rw [h1 x hx, h1 y hy]
  omega
set_option maxRecDepth 100000 in
theorem row_ext (xs ys : List Int) (hl : xs.length = ys.length) (hx : ∀ x ∈ xs, 0 ≤ x ∧ x ≤ 255) (hy : ∀ x ∈ ys, 0 ≤ x ∧ x ≤ 255) (h : ∀ q, q < 8 * xs.length → getN xs q = getN ys q) : xs = ys := by
  apply getD_ext _ _ hl
  intro i hi
  refine byte_ext _ _ (getD_bound xs hx i) (getD_bound ys hy i) (fun k hk => ?_)
  have := h (8 * i + k) (by omega)
  unfold getN at this
  rwa [show (8 * i + k) / 8 = i by omega, show (8 * i + k) % 8 = k by omega] at this
set_option maxRecDepth 100000 in
theorem mod_bit (x : Int) (m k : Nat) (hx : 0 ≤ x) : bitB (x % 2 ^ m) k = (decide (k < m) && bitB x k) := by
  obtain ⟨X, rfl⟩ := Int.eq_ofNat_of_zero_le hx
  unfold bitB
  have e : ((X : Int) % 2 ^ m).toNat = X % 2 ^ m := by
    rw [show ((X : Int) % 2 ^ m) = ((X % 2 ^ m : Nat) : Int) by simp]
    exact Int.toNat_natCast _
  rw [e, Int.toNat_natCast, Nat.testBit_mod_two_pow]
theorem bitB_zero (k : Nat) : bitB 0 k = false := by simp [bitB]
set_option maxRecDepth 100000 in
theorem getN_mask (xs : List Int) (N size q : Nat) (hx : ∀ x ∈ xs, 0 ≤ x ∧ x ≤ 255) (hq : q < 8 * size) : getN (maskL xs N size) q = (decide (q < N) && getN xs q) := by
  unfold getN
  rw [maskL_get _ _ _ _ (by omega)]
  by_cases h1 : q / 8 < N / 8
  · rw [if_pos h1, decide_eq_true (show q < N by omega)]; simp
  · rw [if_neg h1]
    by_cases h2 : q / 8 = N / 8
    · rw [if_pos h2, mod_bit _ _ _ (getD_bound xs hx _).1]
      congr 1
      simp only [decide_eq_decide]
      omega
    · rw [if_neg h2, bitB_zero, decide_eq_false (show ¬ q < N by omega)]; simp
/-- A row that is filled bit by bit. -/
def fillW (xs : List Int) (size : Nat) : Nat → List Int
  | 0 => zeros size
  | k + 1 => withI (fillW xs size k) (k : Int) (getI xs (k : Int))
theorem fillW_length (xs : List Int) (size k : Nat) : (fillW xs size k).length = size := by
  induction k with
  | zero => exact zeros_length _
  | succ k ih => rw [fillW, withI_length, ih]
theorem fillW_bound (xs : List Int) (size k : Nat) : ∀ x ∈ fillW xs size k, 0 ≤ x ∧ x ≤ 255 := by
  induction k with
  | zero => exact zeros_bound _
  | succ k ih => exact withI_bound _ _ _ ih
set_option maxRecDepth 100000 in
theorem getN_fill (xs : List Int) (size k q : Nat) (hk : k ≤ 8 * size) : getN (fillW xs size k) q = (decide (q < k) && getN xs q) := by
  induction k with
  | zero =>
    unfold getN
    rw [fillW, zeros_get, bitB_zero]
    simp
  | succ k ih =>
    rw [fillW, getN_with _ _ _ _ (fillW_bound xs size k), fillW_length, hasI_nat, ih (by omega), getI_nat]
    by_cases h : q = k
    · subst h
      rw [if_pos ⟨by simp; omega, rfl⟩]
      simp
    · rw [if_neg (fun hh => h (by have := hh.2; omega))]
      congr 1
      simp only [decide_eq_decide]
      omega
set_option maxRecDepth 100000 in
theorem fill_mask (xs : List Int) (N size : Nat) (hx : ∀ x ∈ xs, 0 ≤ x ∧ x ≤ 255) (hN : N ≤ 8 * size) : fillW xs size N = maskL xs N size := by
  refine row_ext _ _ (by rw [fillW_length, maskL_length]) (fillW_bound xs size N) (maskL_bound xs N size hx) (fun q hq => ?_)
  rw [fillW_length] at hq
  rw [getN_fill _ _ _ _ hN, getN_mask _ _ _ _ hx hq]
end Sup
end Go.Proofs.YtejnmpnioeamhaaGreat
namespace Go.Proofs.YtejnmpnioeamhaaGreat
open Go Go.Proofs Go.RowKit Go.Shelf
namespace Sup
set_option maxRecDepth 100000 in
/-- copy(b, s) into a row that is known. -/
theorem copy_run (W : World) (g o dLen dCap : Nat) (xs ys : List Int) (ao : Option Addr) (n c : Nat) (h : RAt W g xs) (hb : BAt W ao n ys) (hnone : ao = none → n = 0 ∧ c = 0) (hl : o + dLen ≤ xs.length) :
    ∃ W', (Builtin.copy_ #[26, 26] 3 #[.slice (some ⟨g, o, none⟩) dLen dCap, .slice ao n c]).run Tryz.prog W = .ok (.int .i64 (min n dLen : Nat)) W' ∧ RAt W' g (splice xs o (ys.take (min n dLen))) ∧ Only (fun k => k = g) W W' := by
  obtain ⟨i0, hi, hz0, hz1, hz2⟩ := info5p
  cases ao with
  | none =>
    obtain ⟨rfl, rfl⟩ := hnone rfl
    refine ⟨W, ?_, ?_, Only.refl _ _⟩
    · rw [run_copy_nil (P := Tryz.prog) W 26 26 3 5 ⟨g, o, none⟩ dLen dCap Tryz.underlying26 (by rw [hi]; simp)]
      simp
      rfl
    · simpa [splice] using h
  | some a =>
    have hyl := hb.1
    have hcl : (By (ys.take (min n dLen))).length = min n dLen := by rw [By_length, List.length_take]; omega
    have hr := run_copy_row (P := Tryz.prog) W 26 26 3 5 g o dLen dCap a n c (By xs).toArray 5 (By (ys.take (min n dLen))) Tryz.underlying26 (by rw [hi]; simp [hz1]) h hcl (fun j u hj => by
      have hjl := (List.getElem?_eq_some_iff.1 hj).1
      rw [By_length] at hjl
      rw [By_get _ j hjl] at hj
      have hj2 : j < min n dLen := by simp at hjl; omega
      obtain ⟨a', e, hc⟩ := hb.at j (by omega)
      cases e
      rw [hc]
      have e : (ys.take (min n dLen)).getD j 0 = ys.getD j 0 := by simp only [List.getD, List.getElem?_take, if_pos hj2]
      rwa [e] at hj) (by rw [hcl]; simp [By_length]; omega) (By_one _)
    refine ⟨W.setRow g (By (splice xs o (ys.take (min n dLen)))).toArray, hr.trans ?_, setRow_heap W g _ _ 5 _ h, (Only.refl (fun k => k = g) W).setRow (.inl rfl) _⟩
    rw [hcl]
    have e : (By xs).toArray.toList.take o ++ By (ys.take (min n dLen)) ++ (By xs).toArray.toList.drop (o + min n dLen) = By (splice xs o (ys.take (min n dLen))) := by
      have : (ys.take (min n dLen)).length = min n dLen := by simp; omega
      unfold splice
      rw [this]
      simp [By]
    rw [e]
    rfl
set_option maxRecDepth 100000 in
theorem bytesfor_any (w : World) (n : Nat) (hn : n ≤ 8000) : Calls Tryz.prog 91 #[.int .i64 n] w fun e w' => e = .returned (.int .i64 (((n + 7) / 8 : Nat) : Int)) ∧ w' = w := by
  have h1 : IntKind.i64.wrap ((n : Int) + 8) = (n : Int) + 8 := by rw [IntKind.wrap_i64]; omega
  have h2 : IntKind.i64.wrap ((n : Int) + 8 - 1) = (n : Int) + 8 - 1 := by rw [IntKind.wrap_i64]; omega
  have h3 : ((n : Int) + 8 - 1) / 8 = (((n + 7) / 8 : Nat) : Int) := by omega
  have H3 := Hid.mk h3
  clear h3
  go_enter Tryz.func91, Tryz.ntmps91
  go_wp2
  go_ret
  exact ⟨by rw [← H3.out]; rfl, rfl⟩
set_option maxRecDepth 100000 in
theorem and_low (x : Int) (v : Nat) (hv : v < 8) (hx : 0 ≤ x ∧ x ≤ 255) : bits BinOp.and IntKind.u8 x (2 ^ v - 1) = x % 2 ^ v := by
  have hp : (2 : Int) ^ v ≤ 128 ∧ 1 ≤ (2 : Int) ^ v := by
    match v, hv with
    | 0, _ => decide
    | 1, _ => decide
    | 2, _ => decide
    | 3, _ => decide
    | 4, _ => decide
    | 5, _ => decide
    | 6, _ => decide
    | 7, _ => decide
  rw [u8_and x _ hx.1 (by omega) (by omega) (by omega)]
  obtain ⟨X, rfl⟩ := Int.eq_ofNat_of_zero_le hx.1
  have e : ((2 : Int) ^ v - 1).toNat = 2 ^ v - 1 := by
    have h1 : ((2 : Int) ^ v) = ((2 ^ v : Nat) : Int) := by simp
    rw [h1]
    omega
  rw [e, Int.toNat_natCast, Nat.and_two_pow_sub_one_eq_mod]
  simp
theorem pow_byte (v : Nat) (hv : v < 8) : 1 ≤ (2 : Int) ^ v ∧ (2 : Int) ^ v ≤ 128 := by
  match v, hv with
  | 0, _ => decide
  | 1, _ => decide
  | 2, _ => decide
  | 3, _ => decide
  | 4, _ => decide
  | 5, _ => decide
  | 6, _ => decide
  | 7, _ => decide
set_option maxRecDepth 100000 in
set_option maxHeartbeats 2000000 in
theorem row_any (w : World) (ao : Option Addr) (n c : Nat) (ys : List Int) (hb : BAt w ao n ys) (hy : ∀ x ∈ ys, 0 ≤ x ∧ x ≤ 255) (hnone : ao = none → n = 0 ∧ c = 0) (N size : Nat) (hN : N ≤ 1000) (hs : (N + 7) / 8 ≤ size) (hs2 : size ≤ 1024) :
    Calls Tryz.prog 90 #[.slice ao n c, .int .i64 N, .int .i64 size] w fun e w' => ∃ g, e = .returned (.slice (some ⟨g, 0, none⟩) size size) ∧ RAt w' g (maskL ys N size) ∧ w.heap.size ≤ g ∧ Below w.heap.size w w' := by
  obtain ⟨g, hg⟩ : ∃ g, g = w.heap.size := ⟨_, rfl⟩
  have hr0 : RAt (w.alloc (.cells (By (zeros size)).toArray 5)) g (zeros size) := by rw [hg]; exact blk_new w _
  have hB0 : Below w.heap.size w (w.alloc (.cells (By (zeros size)).toArray 5)) := (Below.refl _ w).alloc (Nat.le_refl _) _
  obtain ⟨W2, r2, hr2, ho2⟩ := copy_run _ g 0 ((N + 7) / 8) size (zeros size) ys ao n c hr0 (hb.only (Only.of_new (fun _ => False) hB0) (fun _ _ _ h => h)) hnone (by rw [zeros_length]; omega)
  rw [pad_splice ys ((N + 7) / 8) size n _ hb.1 hs rfl] at hr2
  have hB2 : Below w.heap.size w W2 := hB0.trans (ho2.below hB0.size (fun k e => by rw [e, hg]; exact Nat.le_refl _))
  have hmk := make_run w size (by omega)
  rw [← hg] at hmk
  have HMK := Hid.mk hmk
  have HR2 := Hid.mk r2
  have HRW := Hid.mk hr2
  have HB2 := Hid.mk hB2
  have HGE := Hid.mk hg
  obtain ⟨bf, hbf⟩ : ∃ bf, bf = (N + 7) / 8 := ⟨_, rfl⟩
  have HBF : Hid (∀ w : World, Calls Tryz.prog 91 #[.int .i64 N] w fun e w' => e = .returned (.int .i64 (bf : Int)) ∧ w' = w) := Hid.mk (fun w => by rw [hbf]; exact bytesfor_any w N (by omega))
  rw [← hbf] at HR2 HRW
  have hbs : bf ≤ size := by omega
  obtain ⟨q, hq⟩ : ∃ q, q = N / 8 := ⟨_, rfl⟩
  obtain ⟨v, hv⟩ : ∃ v, v = N % 8 := ⟨_, rfl⟩
  have hqi : (N : Int) / 8 = (q : Int) := by omega
  have hvi : (N : Int) % 8 = (v : Int) := by omega
  have hv8 : v < 8 := by omega
  have HBQ := Hid.mk hbf
  have HQ := Hid.mk hq
  have HV := Hid.mk hv
  have hqs : v ≠ 0 → q < size := by omega
  clear hr0 hB0 r2 hr2 ho2 hB2 hmk hg hb hbf hq hv hs hnone
  by_cases h0 : v = 0
  · subst h0
    go_enter Tryz.func90, Tryz.ntmps90
    go_wp2_with (first
      | (at_make; refine wpList_make_known rfl (.tmp 9) (.tmp 9) 26 rfl _ _ _ _ rfl rfl HMK.out ?_)
      | (go_at_call 91; refine (HBF.out _).mono ?_; rintro e w3 ⟨rfl, hw⟩; subst w3)
      | (refine wpList_copy_known rfl (.tmp 14) (.tmp 15) 26 26 rfl _ _ _ _ rfl rfl HR2.out ?_))
    go_ret
    refine ⟨g, rfl, ?_, by rw [HGE.out]; exact Nat.le_refl _, HB2.out⟩
    have h := HRW.out
    rw [HBQ.out, show (N + 7) / 8 = N / 8 by have := HV.out; omega, mask_even _ _ _ HV.out.symm] at h
    exact h
  · have hv0 : ((v : Int) == 0) = false := by simp; omega
    have hv1 : ¬ ((v : Int) = 0) := by omega
    have hqs2 := hqs h0
    go_enter Tryz.func90, Tryz.ntmps90
    go_wp2_with (first
      | (at_make; refine wpList_make_known rfl (.tmp 9) (.tmp 9) 26 rfl _ _ _ _ rfl rfl HMK.out ?_)
      | (go_at_call 91; refine (HBF.out _).mono ?_; rintro e w3 ⟨rfl, hw⟩; subst w3)
      | (refine wpList_copy_known rfl (.tmp 14) (.tmp 15) 26 26 rfl _ _ _ _ rfl rfl HR2.out ?_))
    have hbq : bf = q + 1 := by have h1 := HBQ.out; have h2 := HQ.out; have h3 := HV.out; omega
    have hx := padL_get ys bf size q hqs2
    rw [if_pos (by omega)] at hx
    have hc1 : W2.cell? ⟨g, q, none⟩ = some (.int .u8 (ys.getD q 0)) := by
      rw [blk_cell HRW.out, ← hx]
      simpa using By_get (padL ys bf size) q (by rw [padL_length]; exact hqs2)
    have hc2 : W2.frozen? ⟨g, q, none⟩ = false := blk_free HRW.out q
    have hxb := getD_bound ys hy q
    have hal := and_low (ys.getD q 0) v hv8 hxb
    obtain ⟨x, hxe⟩ : ∃ x, x = ys.getD q 0 := ⟨_, rfl⟩
    rw [← hxe] at hc1 hxb hal
    have hpb : 1 ≤ (2 : Int) ^ v ∧ (2 : Int) ^ v ≤ 128 := pow_byte v hv8
    have hst : (Instr.storeAt 5 (.pointer (some ⟨g, q, none⟩)) (.int .u8 (bits BinOp.and IntKind.u8 x ((2 : Int) ^ v - 1)))).run Tryz.prog W2.drew = .ok () (W2.drew.setCell ⟨g, q, none⟩ (.int .u8 (bits BinOp.and IntKind.u8 x ((2 : Int) ^ v - 1)))) := by go_simp
    have HST := Hid.mk hst
    have HAL := Hid.mk hal
    have HXE := Hid.mk hxe
    have HQB := Hid.mk hbq
    clear hst hal hxe hx hbq hc2
    generalize hp : (2 : Int) ^ v = p at *
    have hpm : p % 256 = p := by omega
    have hpi : IntKind.u8.wrap p = p := by rw [IntKind.wrap_u8']; omega
    have hpj : IntKind.u8.wrap (p - 1) = p - 1 := by rw [IntKind.wrap_u8']; omega
    have hqi2 : Int.tdiv (N : Int) 8 = (q : Int) := by rw [Int.tdiv_eq_ediv_of_nonneg (by omega)]; exact hqi
    have hqn : ((q : Int)).toNat = q := by omega
    have hqw : IntKind.i64.wrap (q : Int) = q := by rw [IntKind.wrap_i64]; omega
    simp only [hvi]
    have hpw : IntKind.u8.wrap ((2 : Int) ^ v) = p := by rw [hp, hpi]
    have HP2 := Hid.mk hp
    clear hp
    have hc1' : W2.drew.cell? ⟨g, q, none⟩ = some (.int .u8 x) := hc1
    refine wp_region_held_drew (S := fun _ => True) (by kernel_rfl) trivial (fun hH => ?_)
    change wpAnyH Tryz.prog Region.Mode.any _ _ _ 11 _ _ _
    refine takeH 0 21 (.slice (some ⟨g, 0, none⟩) size size) rfl (by kernel_rfl) (by kernel_rfl) (by kernel_rfl) (by kernel_rfl) (fun _ _ _ h => h) (by kernel_rfl) (fun w hw => by kernel_rfl) hH ?_
    simp only [List.setIfInBounds_toArray, List.set_cons_zero, List.set_cons_succ]
    refine takeH 1 22 (.int .i64 (N)) rfl (by kernel_rfl) (by kernel_rfl) (by kernel_rfl) (by kernel_rfl) (fun _ _ _ h => h) (by kernel_rfl) (fun w hw => by kernel_rfl) hH ?_
    simp only [List.setIfInBounds_toArray, List.set_cons_zero, List.set_cons_succ]
    refine takeH 2 23 (.int .i64 ((q : Int))) rfl (by kernel_rfl) (by kernel_rfl) (by kernel_rfl) (by kernel_rfl) (fun _ _ _ h => h) (by kernel_rfl) (fun w hw => by ((try dsimp only at hw); go_simp)) hH ?_
    simp only [List.setIfInBounds_toArray, List.set_cons_zero, List.set_cons_succ]
    refine takeH 3 24 (.pointer (some ⟨g, q, none⟩)) rfl (by kernel_rfl) (by kernel_rfl) (by kernel_rfl) (by kernel_rfl) (fun _ _ _ h => h) (by kernel_rfl) (fun w hw => by ((try dsimp only at hw); go_simp)) hH ?_
    simp only [List.setIfInBounds_toArray, List.set_cons_zero, List.set_cons_succ]
    refine takeH 5 26 (.int .i64 ((v : Int))) rfl (by kernel_rfl) (by kernel_rfl) (by kernel_rfl) (by kernel_rfl) (fun _ _ _ h => h) (by kernel_rfl) (fun w hw => by kernel_rfl) hH ?_
    simp only [List.setIfInBounds_toArray, List.set_cons_zero, List.set_cons_succ]
    refine takeH 6 27 (.int .u8 (p)) rfl (by kernel_rfl) (by kernel_rfl) (by kernel_rfl) (by kernel_rfl) (fun _ _ _ h => h) (by kernel_rfl) (fun w hw => by ((try dsimp only at hw); go_simp)) hH ?_
    simp only [List.setIfInBounds_toArray, List.set_cons_zero, List.set_cons_succ]
    refine takeH 7 28 (.int .u8 (p - 1)) rfl (by kernel_rfl) (by kernel_rfl) (by kernel_rfl) (by kernel_rfl) (fun _ _ _ h => h) (by kernel_rfl) (fun w hw => by ((try dsimp only at hw); go_simp)) hH ?_
    simp only [List.setIfInBounds_toArray, List.set_cons_zero, List.set_cons_succ]
    refine stepH 4 25 (.int .u8 x) rfl (by kernel_rfl) (by kernel_rfl) (by kernel_rfl) (by go_simp) trivial ?_
    simp only [List.setIfInBounds_toArray, List.set_cons_zero, List.set_cons_succ]
    refine takeH 8 29 (.int .u8 (bits BinOp.and IntKind.u8 x (p - 1))) rfl (by kernel_rfl) (by kernel_rfl) (by kernel_rfl) (by kernel_rfl) (fun _ _ _ h => h) (by kernel_rfl) (fun w hw => by ((try dsimp only at hw); go_simp)) trivial ?_
    simp only [List.setIfInBounds_toArray, List.set_cons_zero, List.set_cons_succ]
    refine takeH 9 30 (.pointer (some ⟨g, q, none⟩)) rfl (by kernel_rfl) (by kernel_rfl) (by kernel_rfl) (by kernel_rfl) (fun _ _ _ h => h) (by kernel_rfl) (fun w hw => by ((try dsimp only at hw); go_simp)) trivial ?_
    simp only [List.setIfInBounds_toArray, List.set_cons_zero, List.set_cons_succ]
    refine stepH_one 10 (by kernel_rfl) ?_
    refine opH_store 10 (W2.drew.setCell ⟨g, q, none⟩ (.int .u8 (bits BinOp.and IntKind.u8 x (p - 1)))) rfl (by kernel_rfl) (by kernel_rfl) (exec_store (p := .tmp 30) (x := .tmp 29) rfl (by kernel_rfl) (by kernel_rfl) HST.out) trivial ?_
    refine wpAnyH_done (by kernel_rfl) ?_ _
    clear hc1 HST
    go_wp2
    go_ret
    refine ⟨g, rfl, ?_, by rw [HGE.out]; exact Nat.le_refl _, HB2.out.drew.setCell (p := ⟨g, q, none⟩) (by rw [HGE.out]; exact Nat.le_refl _) _⟩
    have h : RAt (W2.drew.setCell ⟨g, q, none⟩ (.int .u8 (bits BinOp.and IntKind.u8 x (p - 1)))) g ((padL ys bf size).set q (bits BinOp.and IntKind.u8 x (p - 1))) := by
      unfold RAt
      rw [blk_set (show W2.drew.heap[g]? = _ from HRW.out), By_setArr]
    have e : (padL ys bf size).set q (bits BinOp.and IntKind.u8 x (p - 1)) = maskL ys N size := by
      rw [HAL.out, HXE.out, ← HP2.out, HQB.out, HQ.out, HV.out, mask_odd ys N size (by have := HQ.out; omega)]
    rwa [e] at h
end Sup
end Go.Proofs.YtejnmpnioeamhaaGreat
namespace Go.Proofs.YtejnmpnioeamhaaGreat
open Go Go.Proofs Go.RowKit Go.Shelf
namespace Sup
/-- How many bits a group's inodes have, its data blocks, and in how many bytes. -/
def nI (I : Int) : Nat := (I * 16).toNat
def nD (D : Int) : Nat := D.toNat
def bD (D : Int) : Nat := (D.toNat + 7) / 8
set_option maxRecDepth 100000 in
theorem _root_.Go.Proofs.YtejnmpnioeamhaaGreat.BAt.new {w : World} {ao : Option Addr} {n : Nat} {xs : List Int} (h : BAt w ao n xs) {B : Nat} {W : World} (hb : Below B w W) (hB : w.heap.size ≤ B) : BAt W ao n xs :=
  h.only (Only.of_new (fun _ => False) ⟨hb.os, hb.tape, hb.output, hb.size, fun k hk => hb.block k (by omega)⟩) (fun _ _ _ h => h)
set_option maxRecDepth 100000 in
set_option maxHeartbeats 1000000 in
theorem inoderow_any (w : World) (G I D : Int) (hg : good G I D = true) (ao : Option Addr) (n c : Nat) (ys : List Int) (hb : BAt w ao n ys) (hy : ∀ x ∈ ys, 0 ≤ x ∧ x ≤ 255) (hnone : ao = none → n = 0 ∧ c = 0) :
    Calls Tryz.prog 64 #[geo G I D, .slice ao n c] w fun e w' => ∃ g, e = .returned (.slice (some ⟨g, 0, none⟩) 8 8) ∧ RAt w' g (maskL ys (nI I) 8) ∧ w.heap.size ≤ g ∧ Below w.heap.size w w' := by
  have hgb := good_iff.1 hg
  have hB0 : Below w.heap.size w (w.alloc (.cells #[.int .i64 G, .int .i64 I, .int .i64 D] 23)) := (Below.refl _ w).alloc (Nat.le_refl _) _
  have e : ((nI I : Nat) : Int) = I * 16 := by unfold nI; omega
  have h := row_any (w.alloc (.cells #[.int .i64 G, .int .i64 I, .int .i64 D] 23)) ao n c ys (hb.new hB0 (Nat.le_refl _)) hy hnone (nI I) 8 (by omega) (by omega) (by omega)
  rw [e] at h
  have H := Hid.mk h
  have hw : IntKind.i64.wrap (I * 16) = I * 16 := by rw [IntKind.wrap_i64]; omega
  have HB0 := Hid.mk hB0
  clear h e hb hy hnone hg hgb hB0
  go_enter Tryz.func64, Tryz.ntmps64
  go_wp2_with (go_at_call 90; refine H.out.mono ?_; rintro e w1 ⟨g, rfl, hrow, hge, hB⟩; have HR := Hid.mk hrow; have HGE := Hid.mk hge; have HB := Hid.mk hB; clear hrow hge hB)
  go_ret
  refine ⟨g, rfl, HR.out, ?_, HB0.out.trans (HB.out.mono HB0.out.size)⟩
  exact Nat.le_trans HB0.out.size HGE.out
set_option maxRecDepth 100000 in
set_option maxHeartbeats 1000000 in
theorem datarow_any (w : World) (G I D : Int) (hg : good G I D = true) (ao : Option Addr) (n c : Nat) (ys : List Int) (hb : BAt w ao n ys) (hy : ∀ x ∈ ys, 0 ≤ x ∧ x ≤ 255) (hnone : ao = none → n = 0 ∧ c = 0) :
    Calls Tryz.prog 65 #[geo G I D, .slice ao n c] w fun e w' => ∃ g, e = .returned (.slice (some ⟨g, 0, none⟩) (bD D) (bD D)) ∧ RAt w' g (maskL ys (nD D) (bD D)) ∧ w.heap.size ≤ g ∧ Below w.heap.size w w' := by
  have hgb := good_iff.1 hg
  have hB0 : Below w.heap.size w (w.alloc (.cells #[.int .i64 G, .int .i64 I, .int .i64 D] 23)) := (Below.refl _ w).alloc (Nat.le_refl _) _
  have e : ((nD D : Nat) : Int) = D := by unfold nD; omega
  have H37 : Hid (∀ W, G3 w.heap.size G I D W → Calls Tryz.prog 90 #[.slice ao n c, .int .i64 D, .int .i64 (bD D : Int)] (w.alloc (.cells #[.int .i64 G, .int .i64 I, .int .i64 D] 23)).drew fun e w' => ∃ g, e = .returned (.slice (some ⟨g, 0, none⟩) (bD D) (bD D)) ∧ RAt w' g (maskL ys (nD D) (bD D)) ∧ (w.alloc (.cells #[.int .i64 G, .int .i64 I, .int .i64 D] 23)).heap.size ≤ g ∧ Below (w.alloc (.cells #[.int .i64 G, .int .i64 I, .int .i64 D] 23)).heap.size (w.alloc (.cells #[.int .i64 G, .int .i64 I, .int .i64 D] 23)).drew w') := Hid.mk (fun _ _ => by
    have h := row_any (w.alloc (.cells #[.int .i64 G, .int .i64 I, .int .i64 D] 23)).drew ao n c ys (hb.new hB0.drew (Nat.le_refl _)) hy hnone (nD D) (bD D) (by unfold nD; omega) (by unfold nD bD; omega) (by unfold bD; omega)
    rw [e] at h
    exact h)
  have H38 : Hid (∀ W : World, Calls Tryz.prog 91 #[.int .i64 D] W fun e w' => e = .returned (.int .i64 (bD D : Int)) ∧ w' = W) := Hid.mk (fun W => by
    have h := bytesfor_any W (nD D) (by unfold nD; omega)
    rw [e] at h
    exact h)
  have HB0 := Hid.mk hB0
  have hG := GAt.new w G I D
  have HK : Hid (∀ W', Below (w.alloc (.cells #[.int .i64 G, .int .i64 I, .int .i64 D] 23)).heap.size (w.alloc (.cells #[.int .i64 G, .int .i64 I, .int .i64 D] 23)).drew W' → G3 w.heap.size G I D W') := Hid.mk (fun W' hB => (GAt.below (W := (w.alloc (.cells #[.int .i64 G, .int .i64 I, .int .i64 D] 23)).drew) hG hB (by simp)).g3)
  clear e hb hy hnone hg hgb hB0 hG
  go_enter Tryz.func65, Tryz.ntmps65
  go_wp2_with fail
  refine wp_region_held_drew (S := G3 w.heap.size G I D) (by kernel_rfl) (HK.out _ (Below.refl _ _)) (fun hH => ?_)
  change wpAnyH Tryz.prog Region.Mode.any _ _ _ 8 _ _ _
  refine takeH 0 5 (.slice ao n c) rfl (by kernel_rfl) (by kernel_rfl) (by kernel_rfl) (by kernel_rfl) (fun _ _ _ h => h) (by kernel_rfl) (fun w hw => by kernel_rfl) hH ?_
  simp only [List.setIfInBounds_toArray, List.set_cons_zero, List.set_cons_succ]
  refine takeH 1 6 (.pointer (some ⟨w.heap.size, 2, none⟩)) rfl (by kernel_rfl) (by kernel_rfl) (by kernel_rfl) (by kernel_rfl) (fun _ _ _ h => h) (by kernel_rfl) (fun w hw => by ((try dsimp only at hw); go_simp)) hH ?_
  simp only [List.setIfInBounds_toArray, List.set_cons_zero, List.set_cons_succ]
  refine takeH 2 7 (.int .i64 (D)) rfl (by kernel_rfl) (by kernel_rfl) (by kernel_rfl) (by kernel_rfl) (fun _ _ _ h => h) (by kernel_rfl) (fun w hw => by ((try dsimp only at hw); go_simp)) hH ?_
  simp only [List.setIfInBounds_toArray, List.set_cons_zero, List.set_cons_succ]
  refine takeH 3 8 (.pointer (some ⟨w.heap.size, 2, none⟩)) rfl (by kernel_rfl) (by kernel_rfl) (by kernel_rfl) (by kernel_rfl) (fun _ _ _ h => h) (by kernel_rfl) (fun w hw => by ((try dsimp only at hw); go_simp)) hH ?_
  simp only [List.setIfInBounds_toArray, List.set_cons_zero, List.set_cons_succ]
  refine takeH 4 9 (.int .i64 (D)) rfl (by kernel_rfl) (by kernel_rfl) (by kernel_rfl) (by kernel_rfl) (fun _ _ _ h => h) (by kernel_rfl) (fun w hw => by ((try dsimp only at hw); go_simp)) hH ?_
  simp only [List.setIfInBounds_toArray, List.set_cons_zero, List.set_cons_succ]
  refine stepH_call 5 10 rfl (by kernel_rfl) (by kernel_rfl) (by kernel_rfl) 91 #[.tmp 9] #[3] (by kernel_rfl) (enters_of Tryz.func91 (by kernel_rfl) rfl) #[.int .i64 (D)] (by kernel_rfl) (H38.out _) ?_
  rintro e w5 ⟨rfl, hw⟩
  subst w5
  refine ⟨_, rfl, hH, ?_⟩
  simp only [List.setIfInBounds_toArray, List.set_cons_zero, List.set_cons_succ]
  refine stepH_call 6 11 rfl (by kernel_rfl) (by kernel_rfl) (by kernel_rfl) 90 #[.tmp 5, .tmp 7, .tmp 10] #[26, 3, 3] (by kernel_rfl) (enters_of Tryz.func90 (by kernel_rfl) rfl) #[.slice ao n c, .int .i64 (D), .int .i64 (bD D : Int)] (by kernel_rfl) (H37.out _ hH) ?_
  rintro e w6 ⟨g, rfl, hrow, hge, hB⟩
  have hH6 := HK.out w6 hB
  have HRW := Hid.mk hrow
  have HB6 := Hid.mk hB
  have HGE := Hid.mk hge
  clear hrow hB hge
  refine ⟨_, rfl, hH6, ?_⟩
  simp only [List.setIfInBounds_toArray, List.set_cons_zero, List.set_cons_succ]
  refine takeH 7 4 (.slice (some ⟨g, 0, none⟩) (bD D) (bD D)) rfl (by kernel_rfl) (by kernel_rfl) (by kernel_rfl) (by kernel_rfl) (fun _ _ _ h => h) (by kernel_rfl) (fun w hw => by kernel_rfl) hH6 ?_
  simp only [List.setIfInBounds_toArray, List.set_cons_zero, List.set_cons_succ]
  refine wpAnyH_done (by kernel_rfl) ?_ _
  clear hH hH6 HK H37 H38
  go_wp2
  go_ret
  exact ⟨g, rfl, HRW.out, Nat.le_trans HB0.out.size HGE.out, HB0.out.drew.trans (HB6.out.mono HB0.out.size)⟩
end Sup
end Go.Proofs.YtejnmpnioeamhaaGreat
namespace Go.Proofs.YtejnmpnioeamhaaGreat
open Go Go.Proofs Go.RowKit Go.Shelf
namespace Sup
/-- The head of a group. -/
def headL (k I D : Int) (xs ys : List Int) : List Int := [67, 71] ++ leL k 2 ++ zeros 12 ++ maskL xs (nI I) 48 ++ maskL ys (nD D) 960
theorem headL_length (k I D : Int) (xs ys : List Int) : (headL k I D xs ys).length = 1024 := by simp [headL, leL_length, zeros_length, maskL_length]
set_option maxRecDepth 100000 in
theorem headL_bound (k I D : Int) (xs ys : List Int) (hx : ∀ x ∈ xs, 0 ≤ x ∧ x ≤ 255) (hy : ∀ x ∈ ys, 0 ≤ x ∧ x ≤ 255) : ∀ x ∈ headL k I D xs ys, 0 ≤ x ∧ x ≤ 255 := by
  intro x h
  simp only [headL, List.mem_append] at h
  rcases h with (((h | h) | h) | h) | h
  · have : ∀ x ∈ ([67, 71] : List Int), 0 ≤ x ∧ x ≤ 255 := by decide
    exact this x h
  · exact leL_bound _ _ x h
  · exact zeros_bound _ x h
  · exact maskL_bound xs _ _ hx x h
  · exact maskL_bound ys _ _ hy x h
set_option maxRecDepth 100000 in
theorem exec_copy {P : Program} {ev : Operand → Value} {oi : Oper} {t u : TypeId} {d s : Operand} {v vx v' : Value} {w w' : World} (ho : oi.op = .call { callee := .builtin .copy, args := #[d, s], argTypes := #[t, u] }) (hd : ev d = v) (hx : ev s = vx) (h : (Builtin.copy_ #[t, u] oi.type #[v, vx]).run P w = .ok v' w') : (execOp ev oi).run P w = .ok (.value v') w' := by
  unfold execOp
  rw [ho]
  simp only [resolve, invoke, builtin, Sem.run_bind, Sem.run_pure, Result.andThen_ok, List.map_toArray, List.map_cons, List.map_nil, hd, hx, h]
theorem cg_bytes : Lib.byteCells (ByteArray.mk #[67, 71]).data.toList = By [67, 71] := by rfl
theorem splice_cg : splice (zeros 1024) 0 [67, 71] = [67, 71] ++ zeros (1024 - 2) := by
  have h := splice_zero 1024 [] [67, 71] 0 rfl (by decide)
  simpa using h
theorem put_eq (k : Int) : splice ([67, 71] ++ zeros (1024 - 2)) 2 (leL k 2) = [67, 71] ++ leL k 2 ++ zeros 12 ++ zeros (1024 - 16) := by
  rw [splice_zero 1024 [67, 71] (leL k 2) 2 rfl (by rw [leL_length]; omega), leL_length, show 1024 - (2 + 2) = 12 + (1024 - 16) by omega, zeros_add]
  simp
set_option maxRecDepth 100000 in
theorem a_eq (k I : Int) (xs : List Int) (hI : nI I ≤ 64) : splice ([67, 71] ++ leL k 2 ++ zeros 12 ++ zeros (1024 - 16)) 16 (List.take (min 8 1008) (maskL xs (nI I) 8)) = [67, 71] ++ leL k 2 ++ zeros 12 ++ maskL xs (nI I) 48 ++ zeros (1024 - 64) := by
  rw [List.take_of_length_le (by rw [maskL_length]; omega), splice_zero 1024 _ _ 16 (by simp [leL_length, zeros_length]) (by rw [maskL_length]; omega), maskL_length, show 1024 - (16 + 8) = 40 + (1024 - 64) by omega, zeros_add, ← maskL_pad xs (nI I) 8 40 (by omega)]
  simp
set_option maxRecDepth 100000 in
theorem b_eq (k I D : Int) (xs ys : List Int) (n : Nat) (hn : n = bD D) (hD : nD D ≤ 8 * n) (h8 : n ≤ 125) : splice ([67, 71] ++ leL k 2 ++ zeros 12 ++ maskL xs (nI I) 48 ++ zeros (1024 - 64)) 64 (List.take (min n 960) (maskL ys (nD D) n)) = headL k I D xs ys := by
  rw [List.take_of_length_le (by rw [maskL_length]; omega), splice_zero 1024 _ _ 64 (by simp [leL_length, zeros_length, maskL_length]) (by rw [maskL_length]; omega), maskL_length, List.append_assoc, maskL_pad ys (nD D) n _ hD, show n + (1024 - (64 + n)) = 960 by omega]
  rfl
set_option maxRecDepth 100000 in
theorem head_put {w W2 : World} {b g : Nat} {G I D k : Int} (h : PkAt w b g G I D ([67, 71] ++ zeros (1024 - 2)) W2) (hk0 : 0 ≤ k) (hk1 : k ≤ 65535) :
    Calls Tryz.prog 63 #[.slice (some ⟨g, 2, none⟩) 1022 1022, .slice (some ⟨W2.heap.size, 0, none⟩) 1 1] (W2.alloc (.cells (Iy [k]).toArray 3)) fun e w' => e = .returned (.int .i64 2) ∧ PkAt w b g G I D ([67, 71] ++ leL k 2 ++ zeros 12 ++ zeros (1024 - 16)) w' := by
  have hPX := h.then ((Below.refl _ W2).alloc (Nat.le_refl _) (.cells (Iy [k]).toArray 3))
  have hlt := h.row.lt
  refine (put16_any _ g 2 1022 1022 ([67, 71] ++ zeros (1024 - 2)) (some ⟨W2.heap.size, 0, none⟩) 1 1 [k] hPX.row (lat_newi W2 [k]) (fun a e => by cases e; exact Nat.ne_of_gt hlt) (fun x hx => by simp at hx; omega) (by omega) (by simp [zeros_length]) (by omega)).mono ?_
  rintro e w' ⟨rfl, h1, h2⟩
  rw [show leLs 2 [k] = leL k 2 by simp [leLs], put_eq] at h1
  exact ⟨rfl, hPX.put h1 h2⟩
set_option maxRecDepth 100000 in
theorem phead_no (w : World) (G I D k : Int) (hk : hdB G I D k = false) (ao bo : Option Addr) (n c m d : Nat) :
    Calls Tryz.prog 29 #[geo G I D, .int .i64 k, .slice ao n c, .slice bo m d] w fun e w' => e = .returned (.tuple #[.slice none 0 0, .int .i64 1]) ∧ Below w.heap.size w w' := by
  have HH : Hid (∀ W : World, Calls Tryz.prog 30 #[geo G I D, .int .i64 k] W fun e w' => e = .returned (.tuple #[.int .i64 (hdI G I D k), .bool false]) ∧ Below W.heap.size W w') := Hid.mk (fun W => by
    have h := head_any W G I D k
    rwa [hk] at h)
  clear hk
  go_enter Tryz.func29, Tryz.ntmps29
  go_wp2_with (go_at_call 30; refine (HH.out _).mono ?_; rintro e w1 ⟨rfl, hB⟩; obtain ⟨hG1, hB1⟩ := behind hB; have HB1 := Hid.mk hB1; clear hB hG1 hB1)
  go_ret2
  exact ⟨rfl, HB1.out⟩
theorem hdB_good {G I D k : Int} (h : hdB G I D k = true) : good G I D = true ∧ 0 ≤ k ∧ k < G := by
  unfold hdB at h
  simp at h
  exact ⟨h.1, h.2.1, h.2.2⟩
set_option maxRecDepth 100000 in
set_option maxHeartbeats 4000000 in
theorem phead_yes (w : World) (G I D k : Int) (hk : hdB G I D k = true) (ao bo : Option Addr) (n c m d : Nat) (xs ys : List Int) (hxa : BAt w ao n xs) (hya : BAt w bo m ys) (hxb : ∀ x ∈ xs, 0 ≤ x ∧ x ≤ 255) (hyb : ∀ x ∈ ys, 0 ≤ x ∧ x ≤ 255) (hxn : ao = none → n = 0 ∧ c = 0) (hyn : bo = none → m = 0 ∧ d = 0) :
    Calls Tryz.prog 29 #[geo G I D, .int .i64 k, .slice ao n c, .slice bo m d] w fun e w' => ∃ g, e = .returned (.tuple #[.slice (some ⟨g, 0, none⟩) 1024 1024, .int .i64 0]) ∧ RAt w' g (headL k I D xs ys) ∧ w.heap.size ≤ g ∧ Below w.heap.size w w' := by
  have HH : Hid (∀ W : World, Calls Tryz.prog 30 #[geo G I D, .int .i64 k] W fun e w' => e = .returned (.tuple #[.int .i64 (hdI G I D k), .bool true]) ∧ Below W.heap.size W w') := Hid.mk (fun W => by
    have h := head_any W G I D k
    rwa [hk] at h)
  obtain ⟨hg, hk0, hk1⟩ := hdB_good hk
  have hb := good_iff.1 hg
  have hDb : nD D ≤ 8 * bD D := by unfold nD bD; omega
  have hD8 : bD D ≤ 125 := by unfold bD; omega
  have HIb : Hid (nI I ≤ 64) := Hid.mk (by unfold nI; omega)
  have HG := Hid.mk hg
  have HXA : Hid (∀ W, Below w.heap.size w W → BAt W ao n xs) := Hid.mk (fun W hB => hxa.new hB (Nat.le_refl _))
  have HYA : Hid (∀ W, Below w.heap.size w W → BAt W bo m ys) := Hid.mk (fun W hB => hya.new hB (Nat.le_refl _))
  have HXB := Hid.mk hxb
  have HYB := Hid.mk hyb
  have HXN := Hid.mk hxn
  have HYN := Hid.mk hyn
  clear hk hg hxa hya hxb hyb hxn hyn
  generalize hdI G I D k = hd at *
  go_enter Tryz.func29, Tryz.ntmps29
  go_wp2_with (first
    | (go_at_call 30; refine (HH.out _).mono ?_; rintro e w1 ⟨rfl, hB⟩; obtain ⟨hG1, hB1⟩ := behind hB; obtain ⟨g, hge⟩ : ∃ g, g = w1.heap.size := ⟨_, rfl⟩; have hP0 : PkAt w w.heap.size g G I D (zeros 1024) (w1.alloc (.cells (By (zeros 1024)).toArray 5)) := ⟨hG1.below ((Below.refl _ w1).alloc (Nat.le_refl _) _) hG1.lt, by rw [hge]; exact blk_new w1 _, hB1.alloc hB1.size _, by rw [hge]; exact Nat.ne_of_lt hG1.lt, by rw [hge]; exact hB1.size⟩; obtain ⟨W2, r2, hr2, ho2⟩ := copy_str_run _ g 1024 1024 (zeros 1024) [67, 71] _ hP0.row cg_bytes (by decide) (by rw [zeros_length]; omega); rw [splice_cg] at hr2; change _ = Result.ok (Value.int .i64 2) W2 at r2; have HP := Hid.mk (hP0.put hr2 ho2); have HR2 := Hid.mk r2; have HMK := Hid.mk (make_run w1 1024 (by omega)); rw [← hge] at HMK; have HGE := Hid.mk hge; clear hB hG1 hB1 hP0 r2 hr2 ho2 hge)
    | (at_make; refine wpList_make_known rfl _ _ 26 rfl _ _ _ _ rfl rfl HMK.out ?_)
    | (refine wpList_copy_known rfl (.tmp 23) (.const (.string ⟨#[67, 71]⟩)) 26 9 rfl _ _ _ _ rfl rfl HR2.out ?_)
    | (go_at_call 63; refine (head_put HP.out hk0 (by omega)).mono ?_; rintro e Wa ⟨rfl, hP⟩; clear HP; have HP := Hid.mk hP; clear hP))
  have HK : Hid (∀ W', Below Wa.heap.size Wa.drew W' → PkAt w w.heap.size g G I D ([67, 71] ++ leL k 2 ++ zeros 12 ++ zeros (1024 - 16)) W' ∧ Below w.heap.size w W') := Hid.mk (fun W' hB => ⟨HP.out.drew.then hB, HP.out.below.drew.trans (hB.mono HP.out.below.size)⟩)
  refine wp_region_held_drew (S := G3 w.heap.size G I D) (by kernel_rfl) HP.out.geo.g3 (fun hH => ?_)
  change wpAnyH Tryz.prog Region.Mode.any _ _ _ 6 _ _ _
  refine takeH 0 31 (.slice (some ⟨g, 0, none⟩) 1024 1024) rfl (by kernel_rfl) (by kernel_rfl) (by kernel_rfl) (by kernel_rfl) (fun _ _ _ h => h) (by kernel_rfl) (fun w hw => by kernel_rfl) hH ?_
  simp only [List.setIfInBounds_toArray, List.set_cons_zero, List.set_cons_succ]
  refine takeH 1 32 (.slice (some ⟨g, 16, none⟩) 1008 1008) rfl (by kernel_rfl) (by kernel_rfl) (by kernel_rfl) (by kernel_rfl) (fun _ _ _ h => h) (by kernel_rfl) (fun w hw => by ((try dsimp only at hw); go_simp)) hH ?_
  simp only [List.setIfInBounds_toArray, List.set_cons_zero, List.set_cons_succ]
  refine takeH 2 33 (geo G I D) rfl (by kernel_rfl) (by kernel_rfl) (by kernel_rfl) (by kernel_rfl) (fun _ _ _ h => h) (by kernel_rfl) (fun w hw => by ((try dsimp only at hw); go_simp)) hH ?_
  simp only [List.setIfInBounds_toArray, List.set_cons_zero, List.set_cons_succ]
  refine takeH 3 34 (.slice ao n c) rfl (by kernel_rfl) (by kernel_rfl) (by kernel_rfl) (by kernel_rfl) (fun _ _ _ h => h) (by kernel_rfl) (fun w hw => by kernel_rfl) hH ?_
  simp only [List.setIfInBounds_toArray, List.set_cons_zero, List.set_cons_succ]
  refine stepH_call 4 35 rfl (by kernel_rfl) (by kernel_rfl) (by kernel_rfl) 64 #[.tmp 33, .tmp 34] #[23, 26] (by kernel_rfl) (enters_of Tryz.func64 (by kernel_rfl) rfl) #[geo G I D, .slice ao n c] (by kernel_rfl) (inoderow_any _ G I D HG.out ao n c xs (HXA.out _ HP.out.below.drew) HXB.out HXN.out) ?_
  rintro e Va ⟨gr, rfl, hrow, hge, hB⟩
  obtain ⟨hP5, hB5⟩ := HK.out Va hB
  obtain ⟨Wb, hcr, hcw, hco⟩ := copy_run Va g 16 1008 1008 _ _ (some ⟨gr, 0, none⟩) 8 8 hP5.row (hrow.full (maskL_length _ _ _)) (by simp) (by simp [zeros_length, leL_length])
  have HP2 := Hid.mk (hP5.put hcw hco)
  have hH5 := hP5.geo.g3
  have HCR := Hid.mk hcr
  clear hcr hcw hco hrow hge hB hP5 hB5
  refine ⟨_, rfl, hH5, ?_⟩
  simp only [List.setIfInBounds_toArray, List.set_cons_zero, List.set_cons_succ]
  refine stepH_run 5 36 _ Wb rfl (by kernel_rfl) (by kernel_rfl) (by kernel_rfl) (exec_copy (d := .tmp 32) (s := .tmp 35) rfl (by kernel_rfl) (by kernel_rfl) HCR.out) HP2.out.geo.g3 ?_
  simp only [List.setIfInBounds_toArray, List.set_cons_zero, List.set_cons_succ]
  refine wpAnyH_done (by kernel_rfl) ?_ _
  clear HP hH hH5 HK HCR
  have HP : Hid (PkAt w w.heap.size g G I D ([67, 71] ++ leL k 2 ++ zeros 12 ++ maskL xs (nI I) 48 ++ zeros (1024 - 64)) Wb) := Hid.mk (by
    have h := HP2.out
    rw [a_eq k I xs HIb.out] at h
    exact h)
  clear HP2
  go_wp2_with fail
  have HK : Hid (∀ W', Below Wb.heap.size Wb.drew W' → PkAt w w.heap.size g G I D ([67, 71] ++ leL k 2 ++ zeros 12 ++ maskL xs (nI I) 48 ++ zeros (1024 - 64)) W' ∧ Below w.heap.size w W') := Hid.mk (fun W' hB => ⟨HP.out.drew.then hB, HP.out.below.drew.trans (hB.mono HP.out.below.size)⟩)
  refine wp_region_held_drew (S := G3 w.heap.size G I D) (by kernel_rfl) HP.out.geo.g3 (fun hH => ?_)
  change wpAnyH Tryz.prog Region.Mode.any _ _ _ 6 _ _ _
  refine takeH 0 37 (.slice (some ⟨g, 0, none⟩) 1024 1024) rfl (by kernel_rfl) (by kernel_rfl) (by kernel_rfl) (by kernel_rfl) (fun _ _ _ h => h) (by kernel_rfl) (fun w hw => by kernel_rfl) hH ?_
  simp only [List.setIfInBounds_toArray, List.set_cons_zero, List.set_cons_succ]
  refine takeH 1 38 (.slice (some ⟨g, 64, none⟩) 960 960) rfl (by kernel_rfl) (by kernel_rfl) (by kernel_rfl) (by kernel_rfl) (fun _ _ _ h => h) (by kernel_rfl) (fun w hw => by ((try dsimp only at hw); go_simp)) hH ?_
  simp only [List.setIfInBounds_toArray, List.set_cons_zero, List.set_cons_succ]
  refine takeH 2 39 (geo G I D) rfl (by kernel_rfl) (by kernel_rfl) (by kernel_rfl) (by kernel_rfl) (fun _ _ _ h => h) (by kernel_rfl) (fun w hw => by ((try dsimp only at hw); go_simp)) hH ?_
  simp only [List.setIfInBounds_toArray, List.set_cons_zero, List.set_cons_succ]
  refine takeH 3 40 (.slice bo m d) rfl (by kernel_rfl) (by kernel_rfl) (by kernel_rfl) (by kernel_rfl) (fun _ _ _ h => h) (by kernel_rfl) (fun w hw => by kernel_rfl) hH ?_
  simp only [List.setIfInBounds_toArray, List.set_cons_zero, List.set_cons_succ]
  refine stepH_call 4 41 rfl (by kernel_rfl) (by kernel_rfl) (by kernel_rfl) 65 #[.tmp 39, .tmp 40] #[23, 26] (by kernel_rfl) (enters_of Tryz.func65 (by kernel_rfl) rfl) #[geo G I D, .slice bo m d] (by kernel_rfl) (datarow_any _ G I D HG.out bo m d ys (HYA.out _ HP.out.below.drew) HYB.out HYN.out) ?_
  rintro e Vb ⟨gr, rfl, hrow, hge, hB⟩
  obtain ⟨hP5, hB5⟩ := HK.out Vb hB
  obtain ⟨Wc, hcr, hcw, hco⟩ := copy_run Vb g 64 960 960 _ _ (some ⟨gr, 0, none⟩) (bD D) (bD D) hP5.row (hrow.full (maskL_length _ _ _)) (by simp) (by simp [zeros_length, leL_length, maskL_length])
  have HP2 := Hid.mk (hP5.put hcw hco)
  have hH5 := hP5.geo.g3
  have HCR := Hid.mk hcr
  clear hcr hcw hco hrow hge hB hP5 hB5
  refine ⟨_, rfl, hH5, ?_⟩
  simp only [List.setIfInBounds_toArray, List.set_cons_zero, List.set_cons_succ]
  refine stepH_run 5 42 _ Wc rfl (by kernel_rfl) (by kernel_rfl) (by kernel_rfl) (exec_copy (d := .tmp 38) (s := .tmp 41) rfl (by kernel_rfl) (by kernel_rfl) HCR.out) HP2.out.geo.g3 ?_
  simp only [List.setIfInBounds_toArray, List.set_cons_zero, List.set_cons_succ]
  refine wpAnyH_done (by kernel_rfl) ?_ _
  clear HP hH hH5 HK HCR
  have HP : Hid (PkAt w w.heap.size g G I D (headL k I D xs ys) Wc) := Hid.mk (by
    have h := HP2.out
    rw [b_eq k I D xs ys (bD D) rfl hDb hD8] at h
    exact h)
  clear HP2
  go_wp2
  go_ret2
  exact ⟨g, rfl, HP.out.row, HP.out.ge, HP.out.below⟩
end Sup
end Go.Proofs.YtejnmpnioeamhaaGreat
namespace Go.Proofs.YtejnmpnioeamhaaGreat
open Go Go.Proofs Go.RowKit Go.Shelf
namespace Sup
set_option maxRecDepth 100000 in
theorem _root_.Go.Proofs.YtejnmpnioeamhaaGreat.BAt.front {W : World} {ao : Option Addr} {n m : Nat} {xs : List Int} (h : BAt W ao n xs) (hm : m ≤ n) : BAt W ao m (xs.take m) := by
  refine ⟨by have := h.1; simp; omega, fun hp => ?_⟩
  obtain ⟨a, e, hlt, hc⟩ := h.2 (by omega)
  refine ⟨a, e, hlt, fun i hi => ?_⟩
  rw [hc i (by omega)]
  simp [List.getD, hi]
set_option maxRecDepth 100000 in
theorem hbits_bad (w : World) (G I D : Int) (hg : good G I D = false) (ao : Option Addr) (n c : Nat) :
    Calls Tryz.prog 48 #[geo G I D, .slice ao n c] w fun e w' => e = .returned (.tuple #[.slice none 0 0, .slice none 0 0]) ∧ Below w.heap.size w w' := by
  have HG := Hid.mk hg
  clear hg
  go_enter Tryz.func48, Tryz.ntmps48
  go_wp2_with (go_at_call 5; refine (good_is _ G I D false HG.out).mono ?_; rintro e w1 ⟨rfl, hB⟩; obtain ⟨hG1, hB1⟩ := behind hB; have HB1 := Hid.mk hB1; clear hB hG1 hB1)
  go_ret2
  exact ⟨rfl, HB1.out⟩
set_option maxRecDepth 100000 in
theorem hbits_short (w : World) (G I D : Int) (hg : good G I D = true) (ao : Option Addr) (n c : Nat) (hn : n ≠ 1024) :
    Calls Tryz.prog 48 #[geo G I D, .slice ao n c] w fun e w' => e = .returned (.tuple #[.slice none 0 0, .slice none 0 0]) ∧ Below w.heap.size w w' := by
  have HG := Hid.mk hg
  have h1 : ((n : Int) == 1024) = false := by simp; omega
  have h2 : ¬ ((n : Int) = 1024) := by omega
  clear hg
  go_enter Tryz.func48, Tryz.ntmps48
  go_wp2_with (go_at_call 5; refine (good_is _ G I D true HG.out).mono ?_; rintro e w1 ⟨rfl, hB⟩; obtain ⟨hG1, hB1⟩ := behind hB; have HB1 := Hid.mk hB1; clear hB hG1 hB1)
  go_ret2
  exact ⟨rfl, HB1.out⟩
set_option maxRecDepth 100000 in
set_option maxHeartbeats 4000000 in
theorem hbits_yes (w : World) (G I D : Int) (hg : good G I D = true) (a0 : Addr) (c : Nat) (ys : List Int) (hb : BAt w (some a0) 1024 ys) (hy : ∀ x ∈ ys, 0 ≤ x ∧ x ≤ 255) (hc : 1024 ≤ c) :
    Calls Tryz.prog 48 #[geo G I D, .slice (some a0) 1024 c] w fun e w' => ∃ a1 c1 a2 c2, e = .returned (.tuple #[.slice (some a1) 8 c1, .slice (some a2) (bD D) c2]) ∧
      BAt w' (some a1) 8 (maskL (ys.drop 16) (nI I) 8) ∧ BAt w' (some a2) (bD D) (maskL (ys.drop 64) (nD D) (bD D)) ∧ Below w.heap.size w w' := by
  have HG := Hid.mk hg
  have hgb := good_iff.1 hg
  have HNI : Hid ((nI I : Int) = 16 * I ∧ (nD D : Int) = D ∧ nI I ≤ 64 ∧ nD D ≤ 1000 ∧ nD D ≤ 8 * bD D ∧ bD D ≤ 125 ∧ 0 < bD D) := Hid.mk (by unfold nI nD bD; omega)
  have hw1 : IntKind.i64.wrap (16 * I) = 16 * I := by rw [IntKind.wrap_i64]; omega
  have hw2 : IntKind.i64.wrap (D + 7) = D + 7 := by rw [IntKind.wrap_i64]; omega
  have HBD : Hid ((D + 7) / 8 = (bD D : Int)) := Hid.mk (by unfold bD; omega)
  have HY := Hid.mk hy
  have HBA := Hid.mk hb
  clear hg hb hy
  obtain ⟨y1, hy1⟩ : ∃ y1, y1 = (ys.drop 16).take 8 := ⟨_, rfl⟩
  obtain ⟨y2, hy2⟩ : ∃ y2, y2 = ys.drop 64 := ⟨_, rfl⟩
  have HY1 := Hid.mk hy1
  have HY2 := Hid.mk hy2
  have HB1 : Hid (∀ x ∈ y1, 0 ≤ x ∧ x ≤ 255) := Hid.mk (by rw [hy1]; exact take_bound _ (drop_bound ys HY.out 16) 8)
  have HB2 : Hid (∀ x ∈ y2, 0 ≤ x ∧ x ≤ 255) := Hid.mk (by rw [hy2]; exact drop_bound ys HY.out 64)
  have HS1 : Hid (∀ W, Below w.heap.size w W → BAt W (some ⟨a0.block, a0.off + 16, none⟩) 8 y1) := Hid.mk (fun W hB => by rw [hy1]; exact ((HBA.out.new hB (Nat.le_refl _)).slice 16 (by omega) (by omega)).front (by omega))
  have HS2 : Hid (∀ W, Below w.heap.size w W → BAt W (some ⟨a0.block, a0.off + 64, none⟩) 960 y2) := Hid.mk (fun W hB => by rw [hy2]; exact (HBA.out.new hB (Nat.le_refl _)).slice 64 (by omega) (by omega))
  clear hy1 hy2
  go_enter Tryz.func48, Tryz.ntmps48
  go_wp2_with (first
    | (go_at_call 5; refine (good_is _ G I D true HG.out).mono ?_; rintro e w1 ⟨rfl, hB⟩; obtain ⟨hG1, hB1⟩ := behind hB; have HG1 := Hid.mk hG1; have HBB := Hid.mk hB1; have HMK := Hid.mk (make_run w1 8 (by omega)); clear hB hG1 hB1)
    | (at_make; refine wpList_make_known rfl _ _ 26 rfl _ _ _ _ rfl rfl HMK.out ?_))
  go_loopw [7, 8] (fun x i wr => ∃ k : Nat, k ≤ (nI I) ∧ i = .int .i64 k ∧ (∃ a cx, x = .slice (some a) 8 cx ∧ BAt wr (some a) 8 (fillW y1 8 k) ∧ w1.heap.size ≤ a.block) ∧ Below w1.heap.size w1 wr) (fun _ i _ => (nI I) - (intOf i).toNat)
  case atStart =>
    exact ⟨0, Nat.zero_le _, rfl, ⟨⟨w1.heap.size, 0, none⟩, 8, rfl, RAt.full (blk_new w1 _) (zeros_length _), Nat.le_refl _⟩, (Below.refl _ w1).alloc (Nat.le_refl _) _⟩
  case round =>
    obtain ⟨k, hk, rfl, ⟨a, cx, rfl, hba, hab⟩, hbw⟩ := hrel
    obtain ⟨c0, c1, c2⟩ := (HG1.out.below hbw HG1.out.lt).g3
    by_cases hlt : k < (nI I)
    · have hlti : (k : Int) < 16 * I := by have := HNI.out; omega
      have hki : I64 (k : Int) := ⟨by omega, by have := HNI.out; omega⟩
      have HGET := Hid.mk (refget_any wr (some ⟨a0.block, a0.off + 16, none⟩) 8 (c - 16) y1 ((fun W hB => HS1.out W (HBB.out.trans (hB.mono HBB.out.size))) wr hbw) HB1.out (k : Int) hki)
      have HWI := Hid.mk (refwith_any wr (some a) 8 cx (k : Int) hki (getI y1 (k : Int)) _ hba (by simp) (by omega))
      have HBW := Hid.mk hbw
      have HFS : Hid (withI (fillW y1 8 k) (k : Int) (getI y1 (k : Int)) = fillW y1 8 (k + 1)) := Hid.mk rfl
      clear hba hki hbw
      generalize getI y1 (k : Int) = on at *
      go_wp2_with (first
        | (go_at_call 50; refine HGET.out.mono ?_; rintro e w3 ⟨rfl, hw⟩; subst w3)
        | (go_at_call 54; refine HWI.out.mono ?_; rintro e w3 ⟨v3, rfl, ho3, hb3⟩; obtain ⟨ao3, c3, rfl, hba3, hbl3, hne3⟩ := owns_BAt ho3; obtain ⟨a3, rfl⟩ := Option.ne_none_iff_exists'.1 (hne3 (by omega)); have HA3 := Hid.mk hba3; have HL3 := Hid.mk (hbl3 a3 rfl).1; have HB3 := Hid.mk hb3; clear ho3 hba3 hbl3 hne3 hb3))
      go_roundw
      case rel => exact ⟨k + 1, by omega, by go_num, ⟨a3, c3, rfl, by rw [← HFS.out]; exact HA3.out, Nat.le_trans HBW.out.size HL3.out⟩, HBW.out.trans (HB3.out.mono HBW.out.size)⟩
      case measure => simp [intOf]; omega
    · have hge : 16 * I ≤ (k : Int) := by have := HNI.out; omega
      obtain rfl : k = (nI I) := by omega
      have HBW := Hid.mk hbw
      have HFA := Hid.mk hba
      have HAB := Hid.mk hab
      clear hba hbw hab hlt hk
      have HGN := Hid.mk (HG1.out.below HBW.out HG1.out.lt)
      have HBN := Hid.mk (HBB.out.trans (HBW.out.mono HBB.out.size))
      have HMK2 := Hid.mk (make_run wr (bD D) (by have := HNI.out; omega))
      rw [← HBD.out] at HMK2
      clear HBB HG1 HBW HMK
      have HG1 := HGN
      have HBB := HBN
      have HFA1 := HFA
      clear HGN HBN HFA HAB
      obtain ⟨W2, hW2⟩ : ∃ W2, W2 = wr := ⟨_, rfl⟩
      rw [← hW2] at HG1 HBB HFA1 HMK2 c0 c1 c2 ⊢
      clear hW2
      obtain ⟨a1, ha1⟩ : ∃ a1, a1 = a := ⟨_, rfl⟩
      rw [← ha1] at HFA1 ⊢
      clear ha1
      obtain ⟨cx1, hcx1⟩ : ∃ cx1, cx1 = cx := ⟨_, rfl⟩
      rw [← hcx1] at ⊢
      clear hcx1
      go_wp2_with (at_make; refine wpList_make_known rfl (.tmp 38) (.tmp 38) 26 rfl (.int .i64 ((D + 7) / 8)) (.int .i64 ((D + 7) / 8)) _ _ rfl rfl HMK2.out ?_)
      clear c0 c1 c2
      go_loopw [9, 10] (fun x i wr => ∃ k : Nat, k ≤ (nD D) ∧ i = .int .i64 k ∧ (∃ a cx, x = .slice (some a) (bD D) cx ∧ BAt wr (some a) (bD D) (fillW y2 (bD D) k) ∧ W2.heap.size ≤ a.block) ∧ Below W2.heap.size W2 wr) (fun _ i _ => (nD D) - (intOf i).toNat)
      case atStart =>
        exact ⟨0, Nat.zero_le _, rfl, ⟨⟨W2.heap.size, 0, none⟩, (bD D), rfl, RAt.full (blk_new W2 _) (zeros_length _), Nat.le_refl _⟩, (Below.refl _ W2).alloc (Nat.le_refl _) _⟩
      case round =>
        obtain ⟨k, hk, rfl, ⟨a, cx, rfl, hba, hab⟩, hbw⟩ := hrel
        obtain ⟨c0, c1, c2⟩ := (HG1.out.below hbw HG1.out.lt).g3
        by_cases hlt : k < (nD D)
        · have hlti : (k : Int) < D := by have := HNI.out; omega
          have hki : I64 (k : Int) := ⟨by omega, by have := HNI.out; omega⟩
          have HGET := Hid.mk (refget_any wr (some ⟨a0.block, a0.off + 64, none⟩) 960 (c - 64) y2 ((fun W hB => HS2.out W (HBB.out.trans (hB.mono HBB.out.size))) wr hbw) HB2.out (k : Int) hki)
          have HWI := Hid.mk (refwith_any wr (some a) (bD D) cx (k : Int) hki (getI y2 (k : Int)) _ hba (by simp) (by have := HNI.out; omega))
          have HBW := Hid.mk hbw
          have HFS : Hid (withI (fillW y2 (bD D) k) (k : Int) (getI y2 (k : Int)) = fillW y2 (bD D) (k + 1)) := Hid.mk rfl
          clear hba hki hbw
          generalize getI y2 (k : Int) = on at *
          go_wp2_with (first
            | (go_at_call 50; refine HGET.out.mono ?_; rintro e w3 ⟨rfl, hw⟩; subst w3)
            | (go_at_call 54; refine HWI.out.mono ?_; rintro e w3 ⟨v3, rfl, ho3, hb3⟩; obtain ⟨ao3, c3, rfl, hba3, hbl3, hne3⟩ := owns_BAt ho3; obtain ⟨a3, rfl⟩ := Option.ne_none_iff_exists'.1 (hne3 (by have := HNI.out; omega)); have HA3 := Hid.mk hba3; have HL3 := Hid.mk (hbl3 a3 rfl).1; have HB3 := Hid.mk hb3; clear ho3 hba3 hbl3 hne3 hb3))
          go_roundw
          case rel => exact ⟨k + 1, by omega, by go_num, ⟨a3, c3, rfl, by rw [← HFS.out]; exact HA3.out, Nat.le_trans HBW.out.size HL3.out⟩, HBW.out.trans (HB3.out.mono HBW.out.size)⟩
          case measure => simp [intOf]; omega
        · have hge : D ≤ (k : Int) := by have := HNI.out; omega
          obtain rfl : k = (nD D) := by omega
          have HBW := Hid.mk hbw
          have HFA := Hid.mk hba
          have HAB := Hid.mk hab
          clear hba hbw hab hlt hk
          go_wp2
          go_ret2
          have hx := HFA1.out.new HBW.out (Nat.le_refl _)
          refine ⟨a1, cx1, a, cx, rfl, ?_, ?_, ?_⟩
          · rw [fill_mask _ _ _ HB1.out (by have := HNI.out; omega), HY1.out, maskL_take] at hx
            exact hx
          · have hz := HFA.out
            rw [fill_mask _ _ _ HB2.out (by have := HNI.out; omega), HY2.out] at hz
            exact hz
          · exact HBB.out.trans (HBW.out.mono HBB.out.size)
end Sup
end Go.Proofs.YtejnmpnioeamhaaGreat
namespace Go.Proofs.YtejnmpnioeamhaaGreat
open Go Go.Proofs Go.RowKit Go.Shelf
namespace Sup
set_option maxRecDepth 100000 in
/-- append(b, x...), b a row of one's own. -/
theorem append_row_run (W : World) (B : Nat) (v : Value) (n : Nat) (xs : List Int) (hown : W.ownsRow B 5 1 v n (By xs)) (hB : B ≤ W.heap.size) (a : Addr) (m c : Nat) (ys : List Int) (hb : BAt W (some a) m ys) (hn : n + m ≤ 16777216) :
    ∃ v' W', (Builtin.append_ #[26, 26] 26 #[v, .slice (some a) m c]).run Tryz.prog W = .ok v' W' ∧ W'.ownsRow B 5 1 v' (n + m) (By (xs ++ ys)) ∧ W.grownBy W' v.ownBlock := by
  obtain ⟨i0, hi, hz0, hz1, hz2⟩ := info5p
  obtain ⟨v3, W3, hr, hown3, hg3, _⟩ := run_append_own (P := Tryz.prog) W B 26 26 5 i0 (.int .u8 0) 1 1 Tryz.underlying26 hi hz0 hz1 hz2 rfl (by decide) v n (By xs) hown a m c (By ys) (by rw [By_length, hb.1, Nat.mul_one]) (fun j u hj => by
      have hjl := (List.getElem?_eq_some_iff.1 hj).1
      rw [By_length] at hjl
      rw [By_get ys j hjl] at hj
      obtain ⟨a', e, hc⟩ := hb.at j (by rw [← hb.1]; exact hjl)
      cases e
      rw [hc]
      exact hj) (By_one ys) (by unfold maxLen; omega) (by omega) hB
  have e : By xs ++ By ys = By (xs ++ ys) := by simp [By]
  rw [e] at hown3
  exact ⟨v3, W3, hr, hown3, hg3⟩
set_option maxRecDepth 100000 in
/-- append(append(b, x...), y...): its two runs. -/
theorem append_two (W : World) (B L : Nat) (v : Value) (n : Nat) (xs : List Int) (hown : W.ownsRow B 5 1 v n (By xs)) (hB : B ≤ W.heap.size) (hv : ∀ k, v.ownBlock = some k → k < L) (a1 a2 : Addr) (m1 m2 c1 c2 : Nat) (ys zs : List Int) (h1 : BAt W (some a1) m1 ys) (h2 : BAt W (some a2) m2 zs) (hL : L ≤ a2.block) (hn : n + m1 + m2 ≤ 16777216) :
    ∃ v1 W1 v2 W2, (Builtin.append_ #[26, 26] 26 #[v, .slice (some a1) m1 c1]).run Tryz.prog W = .ok v1 W1 ∧ (Builtin.append_ #[26, 26] 26 #[v1, .slice (some a2) m2 c2]).run Tryz.prog W1 = .ok v2 W2 ∧ W2.ownsRow B 5 1 v2 (n + m1 + m2) (By (xs ++ ys ++ zs)) ∧ Below B W W2 := by
  obtain ⟨v1, W1, r1, o1, g1⟩ := append_row_run W B v n xs hown hB a1 m1 c1 ys h1 (by omega)
  have hb1 : Below B W W1 := (Below.refl _ W).grown g1 hB (fun k hk => (hown.lt k hk).1)
  have h2' : BAt W1 (some a2) m2 zs := h2.only ((Only.refl (fun k => v.ownBlock = some k) W).grown g1 (fun k hk => .inl hk)) (fun a e _ hs => by cases e; have := hv _ hs; omega)
  obtain ⟨v2, W2, r2, o2, g2⟩ := append_row_run W1 B v1 (n + m1) (xs ++ ys) o1 (Nat.le_trans hB hb1.size) a2 m2 c2 zs h2' (by omega)
  exact ⟨v1, W1, v2, W2, r1, r2, o2, hb1.grown g2 (Nat.le_trans hB hb1.size) (fun k hk => (o1.lt k hk).1)⟩
set_option maxRecDepth 100000 in
theorem cg_src (w : World) (B : Nat) : Src (w.alloc (.cells #[.int .u8 67, .int .u8 71] 5 (2, 3))) B (.slice (some ⟨w.heap.size, 0, none⟩) 2 2) 2 [67, 71] := by
  refine .inr ⟨_, rfl, rfl, fun _ => ⟨_, rfl, by simp, fun i hi => ?_⟩⟩
  rw [add_at, blk_cell (blk_new w _), Nat.zero_add]
  match i, hi with
  | 0, _ => rfl
  | 1, _ => rfl
set_option maxRecDepth 100000 in
set_option maxHeartbeats 4000000 in
theorem packhead_any (w : World) (G I D q0 : Int) (hg : good G I D = true) (hk0 : 0 ≤ q0) (hk1 : q0 < 65536) (ao bo : Option Addr) (n c m d : Nat) (xs ys : List Int) (hxa : BAt w ao n xs) (hya : BAt w bo m ys) (hxb : ∀ x ∈ xs, 0 ≤ x ∧ x ≤ 255) (hyb : ∀ x ∈ ys, 0 ≤ x ∧ x ≤ 255) :
    Calls Tryz.prog 58 #[geo G I D, .int .i64 q0, .slice ao n c, .slice bo m d] w fun e w' => ∃ v', e = .returned v' ∧ w'.ownsRow w.heap.size 5 1 v' 1024 (By (headL q0 I D xs ys)) ∧ Below w.heap.size w w' := by
  have HG := Hid.mk hg
  have hgb := good_iff.1 hg
  have HNI : Hid ((nI I : Int) = 16 * I ∧ (nD D : Int) = D ∧ nI I ≤ 64 ∧ nD D ≤ 1000) := Hid.mk (by unfold nI nD; omega)
  have hw1 : IntKind.i64.wrap (16 * I) = 16 * I := by rw [IntKind.wrap_i64]; omega
  have HXA : Hid (∀ W, Below w.heap.size w W → BAt W ao n xs) := Hid.mk (fun W hB => hxa.new hB (Nat.le_refl _))
  have HYA : Hid (∀ W, Below w.heap.size w W → BAt W bo m ys) := Hid.mk (fun W hB => hya.new hB (Nat.le_refl _))
  have HXB := Hid.mk hxb
  have HYB := Hid.mk hyb
  have hbL : Below w.heap.size w ((w.alloc (.cells #[.int .i64 G, .int .i64 I, .int .i64 D] 23)).alloc (.cells #[.int .u8 67, .int .u8 71] 5 (2, 3))) := ((Below.refl _ w).alloc (Nat.le_refl _) _).alloc (by simp) _
  have HBL := Hid.mk hbL
  have HGL : Hid (GAt w.heap.size G I D ((w.alloc (.cells #[.int .i64 G, .int .i64 I, .int .i64 D] 23)).alloc (.cells #[.int .u8 67, .int .u8 71] 5 (2, 3)))) := Hid.mk ((GAt.new w G I D).below ((Below.refl _ _).alloc (Nat.le_refl _) _) (by simp))
  have hsrc := cg_src (w.alloc (.cells #[.int .i64 G, .int .i64 I, .int .i64 D] 23)) (w.alloc (.cells #[.int .i64 G, .int .i64 I, .int .i64 D] 23)).heap.size
  have hput := rput_any ((w.alloc (.cells #[.int .i64 G, .int .i64 I, .int .i64 D] 23)).alloc (.cells #[.int .u8 67, .int .u8 71] 5 (2, 3))) (w.alloc (.cells #[.int .i64 G, .int .i64 I, .int .i64 D] 23)).heap.size _ 2 2 [67, 71] q0 hsrc (by simp) (by omega) (by omega) (by omega) hk0 (by omega)
  rw [show (w.alloc (.cells #[.int .i64 G, .int .i64 I, .int .i64 D] 23)).heap.size = w.heap.size + 1 by simp] at hput
  have HP := Hid.mk hput
  have hsz : ((w.alloc (.cells #[.int .i64 G, .int .i64 I, .int .i64 D] 23)).alloc (.cells #[.int .u8 67, .int .u8 71] 5 (2, 3))).heap.size = w.heap.size + 2 := by simp
  have hcv := Joins.run_convert_bytes_const_at (P := Tryz.prog) (w.alloc (.cells #[.int .i64 G, .int .i64 I, .int .i64 D] 23)) 26 5 #[.int .u8 67, .int .u8 71] 2 2 (w.heap.size + 1) (by simp) Tryz.underlying26 Tryz.underlying5
  clear hg hxa hya hxb hyb hbL hsrc hput
  go_enter Tryz.func58, Tryz.ntmps58
  go_wp2_with (first
    | (go_at_call 85; refine HP.out.mono ?_; rintro e w1 ⟨v1, rfl, ho1, hb1⟩; have HO1 := Hid.mk ho1; have HB1 := Hid.mk (HBL.out.trans (hb1.mono (by omega))); have HG1 := Hid.mk (HGL.out.below hb1 (by omega)); have hs1 : w.heap.size + 2 ≤ w1.heap.size := by have := hb1.size; omega
       have HS1 := Hid.mk hs1; clear ho1 hb1 hsz hs1)
    | (go_at_call 86; refine (fill_any _ _ _ 4 16 _ HO1.out (Nat.le_trans (by omega) HS1.out) (by omega) (by omega) (by omega)).mono ?_; rintro e w2 ⟨v2, rfl, ho2, hb2⟩; have HO2 := Hid.mk ho2; have HB2 := Hid.mk (HB1.out.trans (hb2.mono (by omega))); have HG2 := Hid.mk (HG1.out.below hb2 (by omega)); clear HG1 HB1; have HG1 := HG2; have HBB := HB2; have HMK := Hid.mk (make_run w2 48 (by omega)); have HB2s := Hid.mk hb2.size; clear ho2 hb2 HG2 HB2)
    | (at_make; refine wpList_make_known rfl _ _ 26 rfl _ _ _ _ rfl rfl HMK.out ?_))
  go_loopw [10, 11] (fun x i wr => ∃ k : Nat, k ≤ (nI I) ∧ i = .int .i64 k ∧ (∃ a cx, x = .slice (some a) 48 cx ∧ BAt wr (some a) 48 (fillW xs 48 k) ∧ w2.heap.size ≤ a.block) ∧ Below w2.heap.size w2 wr) (fun _ i _ => (nI I) - (intOf i).toNat)
  case atStart =>
    exact ⟨0, Nat.zero_le _, rfl, ⟨⟨w2.heap.size, 0, none⟩, 48, rfl, RAt.full (blk_new w2 _) (zeros_length _), Nat.le_refl _⟩, (Below.refl _ w2).alloc (Nat.le_refl _) _⟩
  case round =>
    obtain ⟨k, hk, rfl, ⟨a, cx, rfl, hba, hab⟩, hbw⟩ := hrel
    obtain ⟨c0, c1, c2⟩ := (HG1.out.below hbw HG1.out.lt).g3
    by_cases hlt : k < (nI I)
    · have hlti : (k : Int) < 16 * I := by have := HNI.out; omega
      have hki : I64 (k : Int) := ⟨by omega, by have := HNI.out; omega⟩
      have HGET := Hid.mk (refget_any wr (ao) n c xs ((fun W hB => HXA.out W (HBB.out.trans (hB.mono HBB.out.size))) wr hbw) HXB.out (k : Int) hki)
      have HWI := Hid.mk (refwith_any wr (some a) 48 cx (k : Int) hki (getI xs (k : Int)) _ hba (by simp) (by omega))
      have HBW := Hid.mk hbw
      have HFS : Hid (withI (fillW xs 48 k) (k : Int) (getI xs (k : Int)) = fillW xs 48 (k + 1)) := Hid.mk rfl
      clear hba hki hbw
      generalize getI xs (k : Int) = on at *
      go_wp2_with (first
        | (go_at_call 50; refine HGET.out.mono ?_; rintro e w3 ⟨rfl, hw⟩; subst w3)
        | (go_at_call 54; refine HWI.out.mono ?_; rintro e w3 ⟨v3, rfl, ho3, hb3⟩; obtain ⟨ao3, c3, rfl, hba3, hbl3, hne3⟩ := owns_BAt ho3; obtain ⟨a3, rfl⟩ := Option.ne_none_iff_exists'.1 (hne3 (by omega)); have HA3 := Hid.mk hba3; have HL3 := Hid.mk (hbl3 a3 rfl).1; have HB3 := Hid.mk hb3; clear ho3 hba3 hbl3 hne3 hb3))
      go_roundw
      case rel => exact ⟨k + 1, by omega, by go_num, ⟨a3, c3, rfl, by rw [← HFS.out]; exact HA3.out, Nat.le_trans HBW.out.size HL3.out⟩, HBW.out.trans (HB3.out.mono HBW.out.size)⟩
      case measure => simp [intOf]; omega
    · have hge : 16 * I ≤ (k : Int) := by have := HNI.out; omega
      obtain rfl : k = (nI I) := by omega
      have HBW := Hid.mk hbw
      have HFA := Hid.mk hba
      have HAB := Hid.mk hab
      clear hba hbw hab hlt hk
      have HGN := Hid.mk (HG1.out.below HBW.out HG1.out.lt)
      have HBN := Hid.mk (HBB.out.trans (HBW.out.mono HBB.out.size))
      have HMK2 := Hid.mk (make_run wr 960 (by omega))
      have HW3 := Hid.mk HBW.out.size
      have HBX0 := HBW
      clear HBB HG1 HBW HMK
      have HG1 := HGN
      have HBB := HBN
      have HFA1 := HFA
      clear HGN HBN HFA HAB
      obtain ⟨W3, hW3⟩ : ∃ W3, W3 = wr := ⟨_, rfl⟩
      rw [← hW3] at HG1 HBB HFA1 HMK2 HW3 HBX0 c0 c1 c2 ⊢
      clear hW3
      obtain ⟨a1, ha1⟩ : ∃ a1, a1 = a := ⟨_, rfl⟩
      rw [← ha1] at HFA1 ⊢
      clear ha1
      obtain ⟨cx1, hcx1⟩ : ∃ cx1, cx1 = cx := ⟨_, rfl⟩
      rw [← hcx1] at ⊢
      clear hcx1
      go_wp2_with (at_make; refine wpList_make_known rfl (.const (.int .i64 960)) (.const (.int .i64 960)) 26 rfl (.int .i64 960) (.int .i64 960) _ _ rfl rfl HMK2.out ?_)
      clear c0 c1 c2
      go_loopw [12, 13] (fun x i wr => ∃ k : Nat, k ≤ (nD D) ∧ i = .int .i64 k ∧ (∃ a cx, x = .slice (some a) 960 cx ∧ BAt wr (some a) 960 (fillW ys 960 k) ∧ W3.heap.size ≤ a.block) ∧ Below W3.heap.size W3 wr) (fun _ i _ => (nD D) - (intOf i).toNat)
      case atStart =>
        exact ⟨0, Nat.zero_le _, rfl, ⟨⟨W3.heap.size, 0, none⟩, 960, rfl, RAt.full (blk_new W3 _) (zeros_length _), Nat.le_refl _⟩, (Below.refl _ W3).alloc (Nat.le_refl _) _⟩
      case round =>
        obtain ⟨k, hk, rfl, ⟨a, cx, rfl, hba, hab⟩, hbw⟩ := hrel
        obtain ⟨c0, c1, c2⟩ := (HG1.out.below hbw HG1.out.lt).g3
        by_cases hlt : k < (nD D)
        · have hlti : (k : Int) < D := by have := HNI.out; omega
          have hki : I64 (k : Int) := ⟨by omega, by have := HNI.out; omega⟩
          have HGET := Hid.mk (refget_any wr (bo) m d ys ((fun W hB => HYA.out W (HBB.out.trans (hB.mono HBB.out.size))) wr hbw) HYB.out (k : Int) hki)
          have HWI := Hid.mk (refwith_any wr (some a) 960 cx (k : Int) hki (getI ys (k : Int)) _ hba (by simp) (by omega))
          have HBW := Hid.mk hbw
          have HFS : Hid (withI (fillW ys 960 k) (k : Int) (getI ys (k : Int)) = fillW ys 960 (k + 1)) := Hid.mk rfl
          clear hba hki hbw
          generalize getI ys (k : Int) = on at *
          go_wp2_with (first
            | (go_at_call 50; refine HGET.out.mono ?_; rintro e w3 ⟨rfl, hw⟩; subst w3)
            | (go_at_call 54; refine HWI.out.mono ?_; rintro e w3 ⟨v3, rfl, ho3, hb3⟩; obtain ⟨ao3, c3, rfl, hba3, hbl3, hne3⟩ := owns_BAt ho3; obtain ⟨a3, rfl⟩ := Option.ne_none_iff_exists'.1 (hne3 (by omega)); have HA3 := Hid.mk hba3; have HL3 := Hid.mk (hbl3 a3 rfl).1; have HB3 := Hid.mk hb3; clear ho3 hba3 hbl3 hne3 hb3))
          go_roundw
          case rel => exact ⟨k + 1, by omega, by go_num, ⟨a3, c3, rfl, by rw [← HFS.out]; exact HA3.out, Nat.le_trans HBW.out.size HL3.out⟩, HBW.out.trans (HB3.out.mono HBW.out.size)⟩
          case measure => simp [intOf]; omega
        · have hge : D ≤ (k : Int) := by have := HNI.out; omega
          obtain rfl : k = (nD D) := by omega
          have HBW := Hid.mk hbw
          have HFA := Hid.mk hba
          have HAB := Hid.mk hab
          clear hba hbw hab hlt hk
          have HBX := Hid.mk (HBX0.out.trans (HBW.out.mono HBX0.out.size))
          have ho2 : wr.ownsRow (w.heap.size + 1) 5 1 v2 16 (By ([67, 71] ++ leL q0 2 ++ List.replicate (16 - 4) 0)) := owns_at HO2.out (fun k hk => HBX.out.block k (HO2.out.lt k hk).2)
          obtain ⟨x1, X1, x2, X2, r1, r2, o2, b2⟩ := append_two wr (w.heap.size + 1) w2.heap.size v2 16 _ ho2 (by have h1 := HS1.out; have h2 := HB2s.out; have h3 := HBX.out.size; omega) (fun k hk => (HO2.out.lt k hk).2) a1 a 48 960 cx1 cx _ _ (HFA1.out.new HBW.out (Nat.le_refl _)) HFA.out (Nat.le_trans HW3.out HAB.out) (by omega)
          have HR1 := Hid.mk r1
          have HR2 := Hid.mk r2
          have HO3 := Hid.mk o2
          have HB3 := Hid.mk ((HBB.out.trans (HBW.out.mono HBB.out.size)).trans (b2.mono (by omega)))
          clear r1 r2 o2 b2 ho2
          go_wp2_with (first
            | (at_builtin; refine wpList_append_known rfl (.tmp 46) (.tmp 47) 26 rfl v2 (.slice (some a1) 48 cx1) _ _ rfl rfl HR1.out ?_)
            | (at_builtin; refine wpList_append_known rfl (.tmp 48) (.tmp 49) 26 rfl x1 (.slice (some a) 960 cx) _ _ rfl rfl HR2.out ?_))
          go_ret
          refine ⟨_, rfl, ?_, HB3.out⟩
          have h := HO3.out
          rw [fill_mask _ _ _ HXB.out (by have := HNI.out; omega), fill_mask _ _ _ HYB.out (by have := HNI.out; omega)] at h
          exact owns_base h (by omega)
end Sup
end Go.Proofs.YtejnmpnioeamhaaGreat
