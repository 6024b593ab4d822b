/-
  What the functions on geometries do: within, Check, num, Good, the blocks of a group, headOf, Head.
-/
import Derived.Test.YtebeejmpnkdllaaBase
import Derived.Test.YtebeejmpnkdllaaChecked
namespace Go.Proofs.Ytebeejmpnkdllaa
open Go Go.Proofs Go.RowKit Go.Shelf

/-- A geometry as a value. -/
abbrev geo (G I D : Int) : Value := .agg #[.int .i64 G, .int .i64 I, .int .i64 D]

/-- May a geometry be? -/
def good (G I D : Int) : Bool := decide (1 ≤ G) && decide (G ≤ 8) && (decide (1 ≤ I) && decide (I ≤ 4)) && (decide (8 ≤ D) && decide (D ≤ 1000))

theorem good_iff {G I D : Int} : good G I D = true ↔ 1 ≤ G ∧ G ≤ 8 ∧ 1 ≤ I ∧ I ≤ 4 ∧ 8 ≤ D ∧ D ≤ 1000 := by
  simp [good, and_assoc]

theorem within_any (w : World) (n a b : Int) : Calls Try.prog 34 #[.int .i64 n, .int .i64 a, .int .i64 b] w fun e w' => e = .returned (.bool (decide (a ≤ n) && decide (n ≤ b))) ∧ w' = w := by
  cases h1 : decide (a ≤ n) <;> cases h2 : decide (n ≤ b)
  all_goals
    go_enter Try.func34, Try.ntmps34
    go_wp2
    go_ret
    exact ⟨rfl, rfl⟩

theorem num_any (w : World) (n : Int) : Calls Try.prog 9 #[.int .i64 n] w fun e w' => e = .returned (.int .i64 n) ∧ w' = w := by
  go_enter Try.func9, Try.ntmps9
  go_wp2
  go_ret
  exact ⟨rfl, rfl⟩

/-- The number that Check answers. -/
def chk (G I D : Int) : Int := if good G I D = true then 0 else 1

theorem check_any (w : World) (G I D : Int) : Calls Try.prog 18 #[geo G I D] w fun e w' => e = .returned (.int .i64 (chk G I D)) ∧ Below w.heap.size w w' := by
  have H := Hid.mk within_any
  go_enter Try.func18, Try.ntmps18
  go_wp2_with (go_at_call 34; refine (H.out _ _ _ _).mono ?_; rintro e w' ⟨rfl, hw⟩; subst w')
  all_goals
    go_ret
    refine ⟨?_, (Below.refl _ w).alloc (Nat.le_refl _) _⟩
    try simp only [chk]
    try rw [if_pos (good_iff.2 (by simp at *; omega))]
    try rw [if_neg (fun h => by have := good_iff.1 h; simp at *; omega)]
    rfl

theorem good_any (w : World) (G I D : Int) : Calls Try.prog 7 #[geo G I D] w fun e w' => e = .returned (.bool (good G I D)) ∧ Below w.heap.size w w' := by
  cases h1 : decide (1 ≤ G) with
  | false =>
    have HG : Hid (good G I D = false) := Hid.mk (by unfold good; rw [h1]; simp)
    go_enter Try.func7, Try.ntmps7
    go_wp2
    go_ret
    exact ⟨by rw [HG.out]; rfl, (Below.refl _ w).alloc (Nat.le_refl _) _⟩
  | true =>
    cases h2 : decide (G ≤ 8) with
    | false =>
      have HG : Hid (good G I D = false) := Hid.mk (by unfold good; rw [h1, h2]; simp)
      go_enter Try.func7, Try.ntmps7
      go_wp2
      go_ret
      exact ⟨by rw [HG.out]; rfl, (Below.refl _ w).alloc (Nat.le_refl _) _⟩
    | true =>
      cases h3 : decide (1 ≤ I) with
      | false =>
        have HG : Hid (good G I D = false) := Hid.mk (by unfold good; rw [h1, h2, h3]; simp)
        go_enter Try.func7, Try.ntmps7
        go_wp2
        go_ret
        exact ⟨by rw [HG.out]; rfl, (Below.refl _ w).alloc (Nat.le_refl _) _⟩
      | true =>
        cases h4 : decide (I ≤ 4) with
        | false =>
          have HG : Hid (good G I D = false) := Hid.mk (by unfold good; rw [h1, h2, h3, h4]; simp)
          go_enter Try.func7, Try.ntmps7
          go_wp2
          go_ret
          exact ⟨by rw [HG.out]; rfl, (Below.refl _ w).alloc (Nat.le_refl _) _⟩
        | true =>
          cases h5 : decide (8 ≤ D) with
          | false =>
            have HG : Hid (good G I D = false) := Hid.mk (by unfold good; rw [h1, h2, h3, h4, h5]; simp)
            go_enter Try.func7, Try.ntmps7
            go_wp2
            go_ret
            exact ⟨by rw [HG.out]; rfl, (Below.refl _ w).alloc (Nat.le_refl _) _⟩
          | true =>
            cases h6 : decide (D ≤ 1000) with
            | false =>
              have HG : Hid (good G I D = false) := Hid.mk (by unfold good; rw [h1, h2, h3, h4, h5, h6]; simp)
              go_enter Try.func7, Try.ntmps7
              go_wp2
              go_ret
              exact ⟨by rw [HG.out]; rfl, (Below.refl _ w).alloc (Nat.le_refl _) _⟩
            | true =>
              have HG : Hid (good G I D = true) := Hid.mk (by unfold good; rw [h1, h2, h3, h4, h5, h6]; simp)
              go_enter Try.func7, Try.ntmps7
              go_wp2
              go_ret
              exact ⟨by rw [HG.out]; rfl, (Below.refl _ w).alloc (Nat.le_refl _) _⟩

theorem gblocks_any (w : World) (G I D : Int) (hg : good G I D = true) : Calls Try.prog 39 #[geo G I D] w fun e w' => e = .returned (.int .i64 (1 + I + D)) ∧ Below w.heap.size w w' := by
  have hb := good_iff.1 hg
  have h1 : IntKind.i64.wrap (1 + I) = 1 + I := by rw [IntKind.wrap_i64]; omega
  have h2 : IntKind.i64.wrap (1 + I + D) = 1 + I + D := by rw [IntKind.wrap_i64]; omega
  clear hb hg
  go_enter Try.func39, Try.ntmps39
  go_wp2
  go_ret
  exact ⟨rfl, (Below.refl _ w).alloc (Nat.le_refl _) _⟩

theorem per_any (w : World) (G I D : Int) (hg : good G I D = true) : Calls Try.prog 31 #[geo G I D] w fun e w' => e = .returned (.int .i64 (1 + I + D)) ∧ Below w.heap.size w w' := by
  have hb := good_iff.1 hg
  have h1 : IntKind.i64.wrap (1 + I) = 1 + I := by rw [IntKind.wrap_i64]; omega
  have h2 : IntKind.i64.wrap (1 + I + D) = 1 + I + D := by rw [IntKind.wrap_i64]; omega
  clear hb hg
  go_enter Try.func31, Try.ntmps31
  go_wp2
  go_ret
  exact ⟨rfl, (Below.refl _ w).alloc (Nat.le_refl _) _⟩

theorem mul_fits {a b A B : Int} (h0 : 0 ≤ a) (h1 : a ≤ A) (h2 : 0 ≤ b) (h3 : b ≤ B) : 0 ≤ a * b ∧ a * b ≤ A * B :=
  ⟨Int.mul_nonneg h0 h2, Int.le_trans (Int.mul_le_mul_of_nonneg_right h1 h2) (Int.mul_le_mul_of_nonneg_left h3 (by omega))⟩

theorem headof_any (w : World) (G I D k : Int) (hg : good G I D = true) (h0 : 0 ≤ k) (h8 : k ≤ 8) : Calls Try.prog 35 #[geo G I D, .int .i64 k] w fun e w' => e = .returned (.int .i64 (1 + k * (1 + I + D))) ∧ Below w.heap.size w w' := by
  have hb := good_iff.1 hg
  have hm := mul_fits h0 h8 (b := 1 + I + D) (B := 1005) (by omega) (by omega)
  have h1 : IntKind.i64.wrap (k * (1 + I + D)) = k * (1 + I + D) := by rw [IntKind.wrap_i64]; omega
  have h2 : IntKind.i64.wrap (1 + k * (1 + I + D)) = 1 + k * (1 + I + D) := by rw [IntKind.wrap_i64]; omega
  have H := Hid.mk (fun w => gblocks_any w G I D hg)
  clear hb hg hm
  go_enter Try.func35, Try.ntmps35
  go_wp2_with (go_at_call 39; refine (H.out _).mono ?_; rintro e w' ⟨rfl, hB⟩)
  go_ret
  exact ⟨rfl, ((Below.refl _ w).alloc (Nat.le_refl _) _).trans (hB.mono (by simp))⟩
/-- A geometry lies at block b. -/
def GAt (b : Nat) (G I D : Int) (W : World) : Prop := W.heap[b]? = some (.cells #[.int .i64 G, .int .i64 I, .int .i64 D] 23 (0, 0))
theorem GAt.lt {b : Nat} {G I D : Int} {W : World} (h : GAt b G I D W) : b < W.heap.size := lt_of_block h
theorem GAt.below {b : Nat} {G I D : Int} {W W' : World} {B : Nat} (h : GAt b G I D W) (hB : Below B W W') (hb : b < B) : GAt b G I D W' := by
  unfold GAt
  rw [hB.block b hb]
  exact h
theorem GAt.new (w : World) (G I D : Int) : GAt w.heap.size G I D (w.alloc (.cells #[.int .i64 G, .int .i64 I, .int .i64 D] 23)) := blk_new w _
/-- What an order of a region may lean on. -/
abbrev G3 (b : Nat) (G I D : Int) (W : World) : Prop := W.cell? ⟨b, 0, none⟩ = some (.int .i64 G) ∧ W.cell? ⟨b, 1, none⟩ = some (.int .i64 I) ∧ W.cell? ⟨b, 2, none⟩ = some (.int .i64 D)
theorem GAt.g3 {b : Nat} {G I D : Int} {W : World} (h : GAt b G I D W) : G3 b G I D W := ⟨blk_cell h 0, blk_cell h 1, blk_cell h 2⟩

theorem check_yes (w : World) (G I D : Int) (hg : good G I D = true) : Calls Try.prog 18 #[geo G I D] w fun e w' => e = .returned (.int .i64 0) ∧ Below w.heap.size w w' := by
  have h := check_any w G I D
  unfold chk at h
  rwa [if_pos hg] at h
theorem check_no (w : World) (G I D : Int) (hg : good G I D = false) : Calls Try.prog 18 #[geo G I D] w fun e w' => e = .returned (.int .i64 1) ∧ Below w.heap.size w w' := by
  have h := check_any w G I D
  unfold chk at h
  rwa [if_neg (by simp [hg])] at h
theorem good_is (w : World) (G I D : Int) (b : Bool) (hg : good G I D = b) : Calls Try.prog 7 #[geo G I D] w fun e w' => e = .returned (.bool b) ∧ Below w.heap.size w w' := by
  have h := good_any w G I D
  rwa [hg] at h

/-- A call that took a geometry: what lies behind it. -/
theorem behind {w w1 : World} {G I D : Int} (hB : Below (w.alloc (.cells #[.int .i64 G, .int .i64 I, .int .i64 D] 23)).heap.size (w.alloc (.cells #[.int .i64 G, .int .i64 I, .int .i64 D] 23)) w1) : GAt w.heap.size G I D w1 ∧ Below w.heap.size w w1 :=
  ⟨(GAt.new w G I D).below hB (by simp), ((Below.refl _ w).alloc (Nat.le_refl _) _).trans (hB.mono (by simp))⟩

def hdB (G I D k : Int) : Bool := good G I D && (decide (0 ≤ k) && decide (k < G))
def hdI (G I D k : Int) : Int := if hdB G I D k = true then 1 + k * (1 + I + D) else 0
theorem hd_yes {G I D k : Int} (hg : good G I D = true) (h0 : 0 ≤ k) (h1 : k < G) : hdB G I D k = true ∧ hdI G I D k = 1 + k * (1 + I + D) := by
  have h : hdB G I D k = true := by simp [hdB, hg, h0, h1]
  exact ⟨h, if_pos h⟩
theorem hd_no {G I D k : Int} (h : good G I D = false ∨ k < 0 ∨ G ≤ k) : hdB G I D k = false ∧ hdI G I D k = 0 := by
  have h' : hdB G I D k = false := by
    rcases h with h | h | h
    · simp [hdB, h]
    · simp [hdB, show ¬ (0 ≤ k) by omega]
    · simp [hdB, show ¬ (k < G) by omega]
  exact ⟨h', if_neg (by simp [h'])⟩

set_option maxRecDepth 100000 in
theorem head_any (w : World) (G I D k : Int) : Calls Try.prog 27 #[geo G I D, .int .i64 k] w fun e w' => e = .returned (.tuple #[.int .i64 (hdI G I D k), .bool (hdB G I D k)]) ∧ Below w.heap.size w w' := by
  cases hg : good G I D with
  | false =>
    have HG := Hid.mk hg
    have HV := Hid.mk (hd_no (I := I) (k := k) (.inl hg))
    clear hg
    go_enter Try.func27, Try.ntmps27
    go_wp2_with (go_at_call 18; refine (check_no _ G I D HG.out).mono ?_; rintro e w1 ⟨rfl, hB⟩; obtain ⟨hG1, hB1⟩ := behind hB; obtain ⟨c0, c1, c2⟩ := hG1.g3; have HG1 := Hid.mk hG1; have HB1 := Hid.mk hB1; clear hB hG1 hB1)
    go_ret2
    exact ⟨by rw [HV.out.1, HV.out.2]; rfl, HB1.out⟩
  | true =>
    have hb := good_iff.1 hg
    have HG := Hid.mk hg
    have hw0 : IntKind.i64.wrap (G - 1) = G - 1 := by rw [IntKind.wrap_i64]; omega
    cases j1 : decide (0 ≤ k) with
    | false =>
      have h1 : k < 0 := by have := of_decide_eq_false j1; omega
      have HV := Hid.mk (hd_no (G := G) (I := I) (D := D) (.inr (.inl h1)))
      have j2 : decide (k ≤ G - 1) = true := decide_eq_true (by omega)
      clear hg hb
      go_enter Try.func27, Try.ntmps27
      go_wp2_with (first | (go_at_call 18; refine (check_yes _ G I D HG.out).mono ?_; rintro e w1 ⟨rfl, hB⟩; obtain ⟨hG1, hB1⟩ := behind hB; obtain ⟨c0, c1, c2⟩ := hG1.g3; have HG1 := Hid.mk hG1; have HB1 := Hid.mk hB1; clear hB hG1 hB1) | (go_at_call 34; refine (within_any _ _ _ _).mono ?_; rintro e w2 ⟨rfl, hw⟩; subst w2; try rw [j1, j2]))
      go_ret2
      exact ⟨by rw [HV.out.1, HV.out.2]; rfl, HB1.out⟩
    | true =>
      have h0 : 0 ≤ k := of_decide_eq_true j1
      by_cases h1 : k < G
      · have HV := Hid.mk (hd_yes hg h0 h1)
        have h8 : k ≤ 8 := by omega
        have j2 : decide (k ≤ G - 1) = true := decide_eq_true (by omega)
        have hm := mul_fits h0 h8 (b := 1 + I + D) (B := 1005) (by omega) (by omega)
        have h3 : IntKind.i64.wrap (k * (1 + I + D)) = k * (1 + I + D) := by rw [IntKind.wrap_i64]; omega
        have h4 : IntKind.i64.wrap (1 + k * (1 + I + D)) = 1 + k * (1 + I + D) := by rw [IntKind.wrap_i64]; omega
        clear hg hb hm
        go_enter Try.func27, Try.ntmps27
        go_wp2_with (first | (go_at_call 18; refine (check_yes _ G I D HG.out).mono ?_; rintro e w1 ⟨rfl, hB⟩; obtain ⟨hG1, hB1⟩ := behind hB; obtain ⟨c0, c1, c2⟩ := hG1.g3; have HG1 := Hid.mk hG1; have HB1 := Hid.mk hB1; clear hB hG1 hB1) | (go_at_call 34; refine (within_any _ _ _ _).mono ?_; rintro e w2 ⟨rfl, hw⟩; subst w2; try rw [j1, j2]) | (go_at_call 35; refine (headof_any _ G I D k HG.out h0 h8).mono ?_; rintro e w3 ⟨rfl, hB3⟩))
        go_ret2
        exact ⟨by rw [HV.out.1, HV.out.2]; rfl, HB1.out.trans (hB3.mono HB1.out.size)⟩
      · have HV := Hid.mk (hd_no (G := G) (I := I) (D := D) (k := k) (.inr (.inr (by omega))))
        have j2 : decide (k ≤ G - 1) = false := decide_eq_false (by omega)
        have j3 : G ≤ k := by omega
        clear hg hb
        go_enter Try.func27, Try.ntmps27
        go_wp2_with (first | (go_at_call 18; refine (check_yes _ G I D HG.out).mono ?_; rintro e w1 ⟨rfl, hB⟩; obtain ⟨hG1, hB1⟩ := behind hB; obtain ⟨c0, c1, c2⟩ := hG1.g3; have HG1 := Hid.mk hG1; have HB1 := Hid.mk hB1; clear hB hG1 hB1) | (go_at_call 34; refine (within_any _ _ _ _).mono ?_; rintro e w2 ⟨rfl, hw⟩; subst w2; try rw [j1, j2]))
        go_ret2
        exact ⟨by rw [HV.out.1, HV.out.2]; rfl, HB1.out⟩

set_option maxRecDepth 100000 in
theorem rhead_any (w : World) (G I D k : Int) : Calls Try.prog 14 #[geo G I D, .int .i64 k] w fun e w' => e = .returned (.tuple #[.int .i64 (hdI G I D k), .bool (hdB G I D k)]) ∧ Below w.heap.size w w' := by
  cases hg : good G I D with
  | false =>
    have HG := Hid.mk hg
    have HV := Hid.mk (hd_no (I := I) (k := k) (.inl hg))
    clear hg
    go_enter Try.func14, Try.ntmps14
    go_wp2_with (go_at_call 7; refine (good_is _ G I D false HG.out).mono ?_; rintro e w1 ⟨rfl, hB⟩; obtain ⟨hG1, hB1⟩ := behind hB; obtain ⟨c0, c1, c2⟩ := hG1.g3; have HG1 := Hid.mk hG1; have HB1 := Hid.mk hB1; clear hB hG1 hB1)
    go_ret2
    exact ⟨by rw [HV.out.1, HV.out.2]; rfl, HB1.out⟩
  | true =>
    have hb := good_iff.1 hg
    have HG := Hid.mk hg
    have hw0 : IntKind.i64.wrap (G - 1) = G - 1 := by rw [IntKind.wrap_i64]; omega
    cases j1 : decide (0 ≤ k) with
    | false =>
      have h1 : k < 0 := by have := of_decide_eq_false j1; omega
      have HV := Hid.mk (hd_no (G := G) (I := I) (D := D) (.inr (.inl h1)))
      have j2 : decide (k ≤ G - 1) = true := decide_eq_true (by omega)
      clear hg hb
      go_enter Try.func14, Try.ntmps14
      go_wp2_with (first | (go_at_call 7; refine (good_is _ G I D true HG.out).mono ?_; rintro e w1 ⟨rfl, hB⟩; obtain ⟨hG1, hB1⟩ := behind hB; obtain ⟨c0, c1, c2⟩ := hG1.g3; have HG1 := Hid.mk hG1; have HB1 := Hid.mk hB1; clear hB hG1 hB1) | (go_at_call 34; refine (within_any _ _ _ _).mono ?_; rintro e w2 ⟨rfl, hw⟩; subst w2; try rw [j1, j2]))
      go_ret2
      exact ⟨by rw [HV.out.1, HV.out.2]; rfl, HB1.out⟩
    | true =>
      have h0 : 0 ≤ k := of_decide_eq_true j1
      by_cases h1 : k < G
      · have HV := Hid.mk (hd_yes hg h0 h1)
        have h8 : k ≤ 8 := by omega
        have j2 : decide (k ≤ G - 1) = true := decide_eq_true (by omega)
        have hm := mul_fits h0 h8 (b := 1 + I + D) (B := 1005) (by omega) (by omega)
        have h3 : IntKind.i64.wrap (k * (1 + I + D)) = k * (1 + I + D) := by rw [IntKind.wrap_i64]; omega
        have h4 : IntKind.i64.wrap (1 + k * (1 + I + D)) = 1 + k * (1 + I + D) := by rw [IntKind.wrap_i64]; omega
        clear hg hb hm
        go_enter Try.func14, Try.ntmps14
        go_wp2_with (first | (go_at_call 7; refine (good_is _ G I D true HG.out).mono ?_; rintro e w1 ⟨rfl, hB⟩; obtain ⟨hG1, hB1⟩ := behind hB; obtain ⟨c0, c1, c2⟩ := hG1.g3; have HG1 := Hid.mk hG1; have HB1 := Hid.mk hB1; clear hB hG1 hB1) | (go_at_call 34; refine (within_any _ _ _ _).mono ?_; rintro e w2 ⟨rfl, hw⟩; subst w2; try rw [j1, j2]) | (go_at_call 31; refine (per_any _ G I D HG.out).mono ?_; rintro e w3 ⟨rfl, hB3⟩))
        go_ret2
        exact ⟨by rw [HV.out.1, HV.out.2]; rfl, HB1.out.trans (hB3.mono HB1.out.size)⟩
      · have HV := Hid.mk (hd_no (G := G) (I := I) (D := D) (k := k) (.inr (.inr (by omega))))
        have j2 : decide (k ≤ G - 1) = false := decide_eq_false (by omega)
        have j3 : G ≤ k := by omega
        clear hg hb
        go_enter Try.func14, Try.ntmps14
        go_wp2_with (first | (go_at_call 7; refine (good_is _ G I D true HG.out).mono ?_; rintro e w1 ⟨rfl, hB⟩; obtain ⟨hG1, hB1⟩ := behind hB; obtain ⟨c0, c1, c2⟩ := hG1.g3; have HG1 := Hid.mk hG1; have HB1 := Hid.mk hB1; clear hB hG1 hB1) | (go_at_call 34; refine (within_any _ _ _ _).mono ?_; rintro e w2 ⟨rfl, hw⟩; subst w2; try rw [j1, j2]))
        go_ret2
        exact ⟨by rw [HV.out.1, HV.out.2]; rfl, HB1.out⟩
end Go.Proofs.Ytebeejmpnkdllaa
