/-
  GeomParts: what each block is, as functions of its number, and a row of ints in memory.
-/
import Derived.Test.YthgdnabonnahaaaTellsWalk
namespace Go.Proofs.Ythgdnabonnahaaa
open Go Go.Proofs Go.RowKit Go.Shelf

/-- Behind k heads. -/
def wh1 (P k : Int) (b : Nat) : Int := if b = 0 then 0 else if ((b : Int) - 1) % P = 0 ∧ ((b : Int) - 1) / P < k then 1 else 0
/-- Behind all heads and the inodes below i. -/
def wh2 (I P i : Int) (b : Nat) : Int := if b = 0 then 0 else if ((b : Int) - 1) % P = 0 then 1 else if ((b : Int) - 1) % P ≤ I ∧ (((b : Int) - 1) / P * I + (((b : Int) - 1) % P - 1)) * 16 + 1 < i then 2 else 0
/-- Behind all heads and inodes and the data blocks below i. -/
def wh3 (I D P i : Int) (b : Nat) : Int := if b = 0 then 0 else if ((b : Int) - 1) % P = 0 then 1 else if ((b : Int) - 1) % P ≤ I then 2 else if ((b : Int) - 1) / P * D + (((b : Int) - 1) % P - 1 - I) < i then 3 else 0

theorem at_pos {b q r P : Int} (h : b = 1 + q * P + r) (h0 : 0 ≤ r) (h1 : r < P) : (b - 1) / P = q ∧ (b - 1) % P = r := by
  obtain ⟨x, y⟩ := divmod_at (n := b - 1) (k := q) (D := P) (by omega) (by omega)
  exact ⟨x, by omega⟩

theorem wh1_zero {P : Int} (hP : 0 < P) (b : Nat) : wh1 P 0 b = 0 := by
  unfold wh1
  by_cases h0 : b = 0
  · simp [h0]
  · rw [if_neg h0, if_neg]
    rintro ⟨_, h⟩
    have := div_nonneg (n := (b : Int) - 1) (D := P) hP (by omega)
    omega

theorem wh1_step {P k : Int} (hP : 0 < P) (hk : 0 ≤ k) {h : Nat} (e : 1 + k * P = h) (b : Nat) : (if b = h then 1 else wh1 P k b) = wh1 P (k + 1) b := by
  have hkP : 0 ≤ k * P := Int.mul_nonneg hk (by omega)
  unfold wh1
  by_cases h0 : b = 0
  · subst h0
    rw [if_neg (by omega)]
    simp
  · obtain ⟨e1, e2, e3⟩ := divmod_of ((b : Int) - 1) P hP
    have hiff : b = h ↔ ((b : Int) - 1) / P = k ∧ ((b : Int) - 1) % P = 0 := by
      constructor
      · rintro rfl
        exact at_pos (by omega) (by omega) (by omega)
      · rintro ⟨x, y⟩
        rw [x, y] at e1
        omega
    generalize ((b : Int) - 1) / P = q at *
    generalize ((b : Int) - 1) % P = r at *
    by_cases hb : b = h
    · rw [if_pos hb, if_neg h0, if_pos]
      have := hiff.1 hb
      omega
    · have hn : ¬ (q = k ∧ r = 0) := fun x => hb (hiff.2 x)
      rw [if_neg hb, if_neg h0, if_neg h0]
      by_cases hr : r = 0 ∧ q < k
      · rw [if_pos hr, if_pos (by omega)]
      · rw [if_neg hr, if_neg (by omega)]

theorem wh1_at {P k : Int} (hP : 0 < P) {h : Nat} (e : 1 + k * P = h) : wh1 P k h = 0 := by
  unfold wh1
  by_cases h0 : h = 0
  · simp [h0]
  · obtain ⟨x, y⟩ := at_pos (b := h) (q := k) (r := 0) (P := P) (by omega) (by omega) (by omega)
    rw [if_neg h0, if_neg]
    omega

theorem in_groups {G P : Int} {b n : Nat} (hP : 0 < P) (hn : (n : Int) = 1 + G * P) (hb : b < n) (h0 : ¬ b = 0) : 0 ≤ ((b : Int) - 1) / P ∧ ((b : Int) - 1) / P < G :=
  ⟨div_nonneg hP (by omega), div_lt hP (by omega)⟩

theorem wh1_end {G I P : Int} {b n : Nat} (hP : 0 < P) (hI : 0 ≤ I) (hn : (n : Int) = 1 + G * P) (hb : b < n) : wh1 P G b = wh2 I P 1 b := by
  unfold wh1 wh2
  by_cases h0 : b = 0
  · simp [h0]
  · obtain ⟨q0, q1⟩ := in_groups hP hn hb h0
    obtain ⟨e1, e2, e3⟩ := divmod_of ((b : Int) - 1) P hP
    generalize ((b : Int) - 1) / P = q at *
    generalize ((b : Int) - 1) % P = r at *
    have hm : 0 ≤ q * I := Int.mul_nonneg q0 hI
    rw [if_neg h0, if_neg h0]
    by_cases hr : r = 0
    · rw [if_pos ⟨hr, q1⟩, if_pos hr]
    · rw [if_neg (by omega), if_neg hr, if_neg (by omega)]

/-- Where inode i lies. -/
theorem ia_pos {G I D i : Int} (h : grB G I D i = true) : ∃ q m : Int, (i - 1) / (I * 16) = q ∧ (i - 1) % (I * 16) = m ∧ 0 ≤ q ∧ q < G ∧ 0 ≤ m ∧ m < I * 16 ∧ i - 1 = q * (I * 16) + m ∧ iaI G I D i = 1 + q * (1 + I + D) + (1 + m / 16) := by
  obtain ⟨hg, b1, b2, b3, b4, b5⟩ := gr_bounds h
  refine ⟨_, _, rfl, rfl, b1, b2, b3, b4, b5, ?_⟩
  rw [(gr_yes h).2.2.1]
  omega

theorem mul16 (q I : Int) : q * (I * 16) = q * I * 16 := by rw [Int.mul_assoc]

theorem wh2_step {G I D i : Int} (h : grB G I D i = true) {h' : Nat} (e : iaI G I D i = h') (b : Nat) : (if b = h' then 2 else wh2 I (1 + I + D) i b) = wh2 I (1 + I + D) (i + 1) b := by
  have hb := good_iff.1 (gr_iff.1 h).1
  obtain ⟨q0, m, eq0, em, hq0, hq1, hm0, hm1, hi, hia⟩ := ia_pos h
  have hP : 0 < 1 + I + D := by omega
  have hqP : 0 ≤ q0 * (1 + I + D) := Int.mul_nonneg hq0 (by omega)
  unfold wh2
  by_cases h0 : b = 0
  · subst h0
    rw [if_neg (by omega)]
    simp
  · by_cases hb' : b = h'
    · obtain ⟨x, y⟩ := at_pos (b := b) (q := q0) (r := 1 + m / 16) (P := 1 + I + D) (by omega) (by omega) (by omega)
      rw [if_pos hb', if_neg h0, if_neg (by omega), x, y, if_pos]
      rw [mul16] at hi
      omega
    · obtain ⟨e1, e2, e3⟩ := divmod_of ((b : Int) - 1) (1 + I + D) hP
      rw [if_neg hb', if_neg h0, if_neg h0]
      generalize ((b : Int) - 1) / (1 + I + D) = q at *
      generalize ((b : Int) - 1) % (1 + I + D) = r at *
      by_cases hr : r = 0
      · rw [if_pos hr, if_pos hr]
      · rw [if_neg hr, if_neg hr]
        by_cases hrI : r ≤ I
        · have hne : ¬ (q * I + (r - 1)) * 16 + 1 = i := by
            intro hh
            have h16 := mul16 q I
            obtain ⟨x, y⟩ := divmod_at (n := i - 1) (k := q) (D := I * 16) (by omega) (by omega)
            have hqq : q0 = q := by rw [← eq0, x]
            rw [hqq] at hia
            exact hb' (by omega)
          by_cases hl : (q * I + (r - 1)) * 16 + 1 < i
          · rw [if_pos ⟨hrI, hl⟩, if_pos ⟨hrI, by omega⟩]
          · rw [if_neg (fun x => hl x.2), if_neg (fun x => hne (by have := x.2; omega))]
        · rw [if_neg (fun x => hrI x.1), if_neg (fun x => hrI x.1)]

theorem wh2_at {G I D i : Int} (h : grB G I D i = true) {h' : Nat} (e : iaI G I D i = h') : ¬ wh2 I (1 + I + D) i h' = 1 := by
  have hb := good_iff.1 (gr_iff.1 h).1
  obtain ⟨q0, m, eq0, em, hq0, hq1, hm0, hm1, hi, hia⟩ := ia_pos h
  have hqP : 0 ≤ q0 * (1 + I + D) := Int.mul_nonneg hq0 (by omega)
  unfold wh2
  obtain ⟨x, y⟩ := at_pos (b := h') (q := q0) (r := 1 + m / 16) (P := 1 + I + D) (by omega) (by omega) (by omega)
  rw [if_neg (by omega), if_neg (by omega)]
  split <;> omega

/-- Where inode i lies: within the disk. -/
theorem ia_in {G I D i : Int} (h : grB G I D i = true) : 1 ≤ iaI G I D i ∧ iaI G I D i < 1 + G * (1 + I + D) := by
  have hb := good_iff.1 (gr_iff.1 h).1
  obtain ⟨q0, m, eq0, em, hq0, hq1, hm0, hm1, hi, hia⟩ := ia_pos h
  have hqP : 0 ≤ q0 * (1 + I + D) := Int.mul_nonneg hq0 (by omega)
  have h2 : (q0 + 1) * (1 + I + D) ≤ G * (1 + I + D) := Int.mul_le_mul_of_nonneg_right (by omega) (by omega)
  rw [step_mul] at h2
  omega

theorem wh2_end {G I D : Int} {b n : Nat} (hg : good G I D = true) (hn : (n : Int) = 1 + G * (1 + I + D)) (hb : b < n) : wh2 I (1 + I + D) (G * (I * 16) + 1) b = wh3 I D (1 + I + D) 0 b := by
  have hgb := good_iff.1 hg
  have hP : 0 < 1 + I + D := by omega
  unfold wh2 wh3
  by_cases h0 : b = 0
  · simp [h0]
  · obtain ⟨q0, q1⟩ := in_groups hP hn hb h0
    obtain ⟨e1, e2, e3⟩ := divmod_of ((b : Int) - 1) (1 + I + D) hP
    rw [if_neg h0, if_neg h0]
    generalize ((b : Int) - 1) / (1 + I + D) = q at *
    generalize ((b : Int) - 1) % (1 + I + D) = r at *
    have hm : 0 ≤ q * D := Int.mul_nonneg q0 (by omega)
    have h2 : (q + 1) * I ≤ G * I := Int.mul_le_mul_of_nonneg_right (by omega) (by omega)
    rw [step_mul] at h2
    have h3 := mul16 G I
    by_cases hr : r = 0
    · rw [if_pos hr, if_pos hr]
    · rw [if_neg hr, if_neg hr]
      by_cases hrI : r ≤ I
      · rw [if_pos ⟨hrI, by omega⟩, if_pos hrI]
      · rw [if_neg (fun x => hrI x.1), if_neg hrI, if_neg (by omega)]

/-- Where data block i lies. -/
theorem da_pos {G I D i : Int} (hg : good G I D = true) (h0 : 0 ≤ i) (h1 : i < G * D) : ∃ q m : Int, i / D = q ∧ i % D = m ∧ 0 ≤ q ∧ q < G ∧ 0 ≤ m ∧ m < D ∧ i = q * D + m ∧ daB G I D i = true ∧ daI G I D i = 1 + q * (1 + I + D) + (1 + I + m) := by
  have hb := good_iff.1 hg
  obtain ⟨e1, e2, e3⟩ := divmod_of i D (by omega)
  obtain ⟨a, c⟩ := da_yes hg h0 h1
  exact ⟨_, _, rfl, rfl, div_nonneg (by omega) h0, div_lt (by omega) h1, e2, e3, e1, a, by rw [c]; omega⟩

theorem da_in {G I D i : Int} (hg : good G I D = true) (h0 : 0 ≤ i) (h1 : i < G * D) : 1 ≤ daI G I D i ∧ daI G I D i < 1 + G * (1 + I + D) ∧ doB G I D (daI G I D i) = true ∧ doI G I D (daI G I D i) = i := by
  have hb := good_iff.1 hg
  obtain ⟨q0, m, eq0, em, hq0, hq1, hm0, hm1, hi, _, hia⟩ := da_pos hg h0 h1
  have hqP : 0 ≤ q0 * (1 + I + D) := Int.mul_nonneg hq0 (by omega)
  have h2 : (q0 + 1) * (1 + I + D) ≤ G * (1 + I + D) := Int.mul_le_mul_of_nonneg_right (by omega) (by omega)
  rw [step_mul] at h2
  obtain ⟨x, y⟩ := do_at (b := daI G I D i) (k := q0) hg hq0 hq1 (by omega) (by omega)
  exact ⟨by omega, by omega, x, by rw [y]; omega⟩

theorem wh3_step {G I D i : Int} (hg : good G I D = true) (hi0 : 0 ≤ i) (hi1 : i < G * D) {h' : Nat} (e : daI G I D i = h') (b : Nat) : (if b = h' then 3 else wh3 I D (1 + I + D) i b) = wh3 I D (1 + I + D) (i + 1) b := by
  have hb := good_iff.1 hg
  obtain ⟨q0, m, eq0, em, hq0, hq1, hm0, hm1, hi, _, hia⟩ := da_pos hg hi0 hi1
  have hP : 0 < 1 + I + D := by omega
  have hqP : 0 ≤ q0 * (1 + I + D) := Int.mul_nonneg hq0 (by omega)
  unfold wh3
  by_cases h0 : b = 0
  · subst h0
    rw [if_neg (by omega)]
    simp
  · by_cases hb' : b = h'
    · obtain ⟨x, y⟩ := at_pos (b := b) (q := q0) (r := 1 + I + m) (P := 1 + I + D) (by omega) (by omega) (by omega)
      rw [if_pos hb', if_neg h0, if_neg (by omega), x, y, if_neg (by omega), if_pos (by omega)]
    · obtain ⟨e1, e2, e3⟩ := divmod_of ((b : Int) - 1) (1 + I + D) hP
      rw [if_neg hb', if_neg h0, if_neg h0]
      generalize ((b : Int) - 1) / (1 + I + D) = q at *
      generalize ((b : Int) - 1) % (1 + I + D) = r at *
      by_cases hr : r = 0
      · rw [if_pos hr, if_pos hr]
      · rw [if_neg hr, if_neg hr]
        by_cases hrI : r ≤ I
        · rw [if_pos hrI, if_pos hrI]
        · rw [if_neg hrI, if_neg hrI]
          have hne : ¬ q * D + (r - 1 - I) = i := by
            intro hh
            obtain ⟨x, y⟩ := divmod_at (n := i) (k := q) (D := D) (by omega) (by omega)
            have hqq : q0 = q := by rw [← eq0, x]
            rw [hqq] at hia hi
            exact hb' (by omega)
          by_cases hl : q * D + (r - 1 - I) < i
          · rw [if_pos hl, if_pos (by omega)]
          · rw [if_neg hl, if_neg (by omega)]

theorem wh3_at {G I D i : Int} (hg : good G I D = true) (hi0 : 0 ≤ i) (hi1 : i < G * D) {h' : Nat} (e : daI G I D i = h') : wh3 I D (1 + I + D) i h' = 0 := by
  have hb := good_iff.1 hg
  obtain ⟨q0, m, eq0, em, hq0, hq1, hm0, hm1, hi, _, hia⟩ := da_pos hg hi0 hi1
  have hqP : 0 ≤ q0 * (1 + I + D) := Int.mul_nonneg hq0 (by omega)
  unfold wh3
  obtain ⟨x, y⟩ := at_pos (b := h') (q := q0) (r := 1 + I + m) (P := 1 + I + D) (by omega) (by omega) (by omega)
  rw [if_neg (by omega), if_neg (by omega), x, y, if_neg (by omega), if_neg (by omega)]

/-- All are something, and the data blocks are those that DataOf knows. -/
theorem wh3_end {G I D : Int} {b n : Nat} (hg : good G I D = true) (hn : (n : Int) = 1 + G * (1 + I + D)) (hb : b < n) (h0 : ¬ b = 0) :
    (wh3 I D (1 + I + D) (G * D) b = 3 ∧ doB G I D b = true) ∨ (¬ wh3 I D (1 + I + D) (G * D) b = 0 ∧ ¬ wh3 I D (1 + I + D) (G * D) b = 3 ∧ doB G I D b = false) := by
  have hgb := good_iff.1 hg
  have hP : 0 < 1 + I + D := by omega
  obtain ⟨q0, q1⟩ := in_groups hP hn hb h0
  obtain ⟨e1, e2, e3⟩ := divmod_of ((b : Int) - 1) (1 + I + D) hP
  have hd := do_iff (G := G) (I := I) (D := D) (b := b)
  unfold wh3
  rw [if_neg h0]
  generalize ((b : Int) - 1) / (1 + I + D) = q at *
  generalize ((b : Int) - 1) % (1 + I + D) = r at *
  have h2 : (q + 1) * D ≤ G * D := Int.mul_le_mul_of_nonneg_right (by omega) (by omega)
  rw [step_mul] at h2
  by_cases hr : r = 0
  · rw [if_pos hr]
    refine .inr ⟨by omega, by omega, ?_⟩
    cases hx : doB G I D b with
    | false => rfl
    | true => have := (hd.1 hx).2.2.2; omega
  · rw [if_neg hr]
    by_cases hrI : r ≤ I
    · rw [if_pos hrI]
      refine .inr ⟨by omega, by omega, ?_⟩
      cases hx : doB G I D b with
      | false => rfl
      | true => have := (hd.1 hx).2.2.2; omega
    · rw [if_neg hrI, if_pos (by omega)]
      exact .inl ⟨rfl, hd.2 ⟨hg, by omega, by omega, by omega⟩⟩

/-! a row of ints in memory -/

/-- The cells of a row that holds f's values. -/
def rowF (f : Nat → Int) (n : Nat) : List Value := (List.range n).map (fun b => Value.int .i64 (f b))
/-- Such a row lies at block a. -/
def WA (a n : Nat) (f : Nat → Int) (W : World) : Prop := W.heap[a]? = some (.cells (rowF f n).toArray 3 (0, 0))
theorem WA.lt {a n : Nat} {f : Nat → Int} {W : World} (h : WA a n f W) : a < W.heap.size := lt_of_block h
theorem WA.cell {a n : Nat} {f : Nat → Int} {W : World} (h : WA a n f W) {b : Nat} (hb : b < n) : W.cell? ⟨a, b, none⟩ = some (.int .i64 (f b)) := by
  rw [blk_cell h]
  simp [rowF, hb]
theorem WA.free {a n : Nat} {f : Nat → Int} {W : World} (h : WA a n f W) (b : Nat) : W.frozen? ⟨a, b, none⟩ = false := blk_free h b
theorem WA.below {a n : Nat} {f : Nat → Int} {W W' : World} (h : WA a n f W) (hB : Below W.heap.size W W') : WA a n f W' := by
  unfold WA
  rw [hB.block a h.lt]
  exact h
theorem rowF_congr {f g : Nat → Int} {n : Nat} (h : ∀ b, b < n → f b = g b) : rowF f n = rowF g n := by
  unfold rowF
  apply List.map_congr_left
  intro b hb
  rw [h b (List.mem_range.1 hb)]
theorem WA.congr {a n : Nat} {f g : Nat → Int} {W : World} (h : WA a n f W) (e : ∀ b, b < n → f b = g b) : WA a n g W := by
  unfold WA
  rw [← rowF_congr e]
  exact h
theorem WA.set {a n : Nat} {f : Nat → Int} {W : World} (h : WA a n f W) (b : Nat) (v : Int) : WA a n (fun x => if x = b then v else f x) (W.setCell ⟨a, b, none⟩ (.int .i64 v)) := by
  unfold WA
  rw [blk_set h]
  congr 2
  rw [List.setIfInBounds_toArray]
  congr 1
  apply List.ext_getElem
  · simp [rowF]
  · intro j h1 h2
    simp only [rowF, List.getElem_set, List.getElem_map, List.getElem_range] at *
    by_cases hj : b = j
    · simp [hj]
    · rw [if_neg hj, if_neg (fun x => hj x.symm)]
end Go.Proofs.Ythgdnabonnahaaa
