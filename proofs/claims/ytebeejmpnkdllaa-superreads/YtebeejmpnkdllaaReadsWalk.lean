/-
  SuperReads: what any bytes are as a superblock, or that they are none; no byte of one may be another.
-/
import Derived.Test.YtebeejmpnkdllaaAlive
namespace Go.Proofs.Ytebeejmpnkdllaa
open Go Go.Proofs Go.RowKit Go.Shelf

theorem sumL_set (xs : List Int) (k : Nat) (v : Int) (h : k < xs.length) : sumL (xs.set k v) = sumL xs - xs.getD k 0 + v := by
  induction xs generalizing k with
  | nil => simp at h
  | cons x r ih =>
    cases k with
    | zero => simp [sumL]; omega
    | succ k =>
      have := ih k (by simpa using h)
      simp [sumL] at this ⊢
      omega
theorem leL4_inj {a b : Int} (ha : 0 ≤ a ∧ a < 4294967296) (hb : 0 ≤ b ∧ b < 4294967296) (h : leL a 4 = leL b 4) : a = b := by
  rw [← numL_leL a ha.1 ha.2, ← numL_leL b hb.1 hb.2, h]
theorem hdr_sum (G I D : Int) : 0 ≤ sumL (hdrL G I D) ∧ sumL (hdrL G I D) < 4294967296 := by
  have h := sumL_bound (hdrL G I D) (hdrL_bound G I D)
  rw [hdrL_length] at h
  omega
/-- A superblock with one byte turned is none. -/
theorem flip_not (G I D G' I' D' : Int) (k : Nat) (v : Int) (hk : k < 1024) (h : (superL G I D).set k v = superL G' I' D') : v = (superL G I D).getD k 0 := by
  by_cases h20 : k < 20
  · have e : (superL G I D).set k v = (hdrL G I D).set k v ++ (leL (sumL (hdrL G I D)) 4 ++ zeros 1000) := by
      unfold superL
      rw [List.append_assoc, List.set_append_left _ _ (by rw [hdrL_length]; exact h20)]
    rw [e] at h
    unfold superL at h
    rw [List.append_assoc] at h
    obtain ⟨h1, h2⟩ := List.append_inj h (by rw [List.length_set, hdrL_length, hdrL_length])
    obtain ⟨h3, -⟩ := List.append_inj h2 (by rw [leL_length, leL_length])
    have hs := leL4_inj (hdr_sum G I D) (hdr_sum G' I' D') h3
    rw [← h1, sumL_set _ _ _ (by rw [hdrL_length]; exact h20)] at hs
    have hgd : (superL G I D).getD k 0 = (hdrL G I D).getD k 0 := by
      unfold superL
      rw [List.append_assoc]
      simp [List.getD, List.getElem?_append_left (show k < (hdrL G I D).length by rw [hdrL_length]; exact h20)]
    rw [hgd]
    omega
  · have e : (superL G I D).set k v = hdrL G I D ++ (leL (sumL (hdrL G I D)) 4 ++ zeros 1000).set (k - 20) v := by
      unfold superL
      rw [List.append_assoc, List.set_append_right _ _ (by rw [hdrL_length]; omega), hdrL_length]
    have h0 := h
    rw [e] at h
    unfold superL at h
    rw [List.append_assoc] at h
    obtain ⟨h1, -⟩ := List.append_inj h (by rw [hdrL_length, hdrL_length])
    have hb : superL G' I' D' = superL G I D := by unfold superL; rw [h1]
    rw [hb] at h0
    have := congrArg (fun l => l.getD k 0) h0
    simp only [List.getD] at this
    rw [List.getElem?_set_self (by rw [superL_length]; exact hk)] at this
    simpa [List.getD] using this
theorem xor_ne (x y : Int) (hx : 0 ≤ x ∧ x ≤ 255) (hy : 0 ≤ y ∧ y ≤ 255) (h0 : y ≠ 0) : bits BinOp.xor IntKind.u8 x y ≠ x := by
  rw [u8_xor x y hx.1 (by omega) hy.1 (by omega)]
  intro h
  obtain ⟨X, rfl⟩ := Int.eq_ofNat_of_zero_le hx.1
  obtain ⟨Y, rfl⟩ := Int.eq_ofNat_of_zero_le hy.1
  simp only [Int.toNat_natCast] at h
  have h1 : X ^^^ Y = X := by exact_mod_cast h
  have h2 : Y = 0 := by
    have h3 : X ^^^ (X ^^^ Y) = X ^^^ X := by rw [h1]
    rw [← Nat.xor_assoc, Nat.xor_self, Nat.zero_xor] at h3
    exact h3
  exact h0 (by rw [h2]; rfl)
theorem flip_reads {G I D : Int} (k : Nat) (y : Int) (hk : k < 1024) (hy : 0 ≤ y ∧ y ≤ 255) (h0 : y ≠ 0) : rdB ((superL G I D).set k (bits BinOp.xor IntKind.u8 ((superL G I D).getD k 0) y)) = false := by
  have hno : rdB ((superL G I D).set k (bits BinOp.xor IntKind.u8 ((superL G I D).getD k 0) y)) = false := by
    cases h : rdB ((superL G I D).set k (bits BinOp.xor IntKind.u8 ((superL G I D).getD k 0) y)) with
    | false => rfl
    | true =>
      unfold rdB at h
      simp only [Bool.and_eq_true, eqB, decide_eq_true_eq] at h
      have := flip_not _ _ _ _ _ _ _ _ hk h.2.2
      exact absurd this (xor_ne _ _ (getD_bound _ (superL_bound G I D) k) hy h0)
  exact hno
theorem flip_bound {G I D : Int} (k : Nat) (y : Int) : ∀ x ∈ (superL G I D).set k (bits BinOp.xor IntKind.u8 ((superL G I D).getD k 0) y), 0 ≤ x ∧ x ≤ 255 := by
  intro x hx
  rcases List.mem_or_eq_of_mem_set hx with h | h
  · exact superL_bound G I D x h
  · rw [h]; exact bounds_u8 (wf_bits _ _ _ _)

theorem GAt.then {w w1 w2 : World} {b : Nat} {G I D : Int} (hG : GAt b G I D w1) (hB : Below w.heap.size w w1) (h : Below w1.heap.size w1 w2) : GAt b G I D w2 ∧ Below w.heap.size w w2 :=
  ⟨hG.below h hG.lt, hB.trans (h.mono hB.size)⟩

/-- Read of a superblock with one byte turned. -/
theorem read_turned (w : World) (base g cap k : Nat) (G I D x y : Int) (ga : Addr) (hga : ga = ⟨g, 0, none⟩) (ho : w.ownsRow base 5 1 (.slice (some ⟨g, 0, none⟩) 1024 cap) 1024 (By (superL G I D))) (hk : k < 1024) (hy : 0 ≤ y ∧ y ≤ 255) (h0 : y ≠ 0) (hx : x = (superL G I D).getD k 0) :
    Calls Try.prog 10 #[.slice (some ga) 1024 cap] (w.setCell (ga.add k) (.int .u8 (bits BinOp.xor IntKind.u8 x y))) fun e w' => e = .returned (.tuple #[geo 0 0 0, .int .i64 4]) ∧ Below (w.setCell (ga.add k) (.int .u8 (bits BinOp.xor IntKind.u8 x y))).heap.size (w.setCell (ga.add k) (.int .u8 (bits BinOp.xor IntKind.u8 x y))) w' := by
  subst hga hx
  have hadd : (⟨g, 0, none⟩ : Addr).add k = ⟨g, k, none⟩ := by rw [add_at, Nat.zero_add]
  rw [hadd]
  have ho2 := owns_set ho k (bits BinOp.xor IntKind.u8 ((superL G I D).getD k 0) y)
  have hcap : 1024 ≤ cap ∧ cap ≤ maxLen := by
    rcases ho.2 with h2 | ⟨_, _, _, e, _, _, h3, h4, _⟩
    · omega
    · cases e; exact ⟨h3, h4⟩
  obtain ⟨ao, c, e, hba, -⟩ := owns_BAt ho2
  cases e
  have h := read_any _ _ 1024 cap _ hba (flip_bound k y) hcap.1 (by have := hcap.2; unfold maxLen at this; omega)
  have hr := rd_no (flip_reads (G := G) (I := I) (D := D) k y hk hy h0)
  rwa [hr.1, hr.2] at h

theorem reads_long (w : World) (ao : Option Addr) (n c : Nat) (G I D q y : Int) (hn : 3000 < n) (hn2 : n ≤ 9223372036854775807) :
    Calls Try.prog 4 #[.slice ao n c, geo G I D, .int .i64 q, .int .u8 y] w fun e w' => e = .returned (.bool true) ∧ Below w.heap.size w w' := by
  have h5 : (3000 : Int) < (n : Int) := by omega
  go_enter Try.func4, Try.ntmps4
  go_wp2_with (go_at_call 6; refine (alive_any _).mono ?_; rintro e w1 ⟨rfl, hB⟩; obtain ⟨hG1, hB1⟩ := behind hB; have HB1 := Hid.mk hB1; clear hB hG1 hB1)
  go_ret
  exact ⟨rfl, HB1.out⟩

set_option maxRecDepth 100000 in
set_option maxHeartbeats 4000000 in
theorem reads_yes (w : World) (ao : Option Addr) (n c : Nat) (xs : List Int) (h : BAt w ao n xs) (hx : ∀ x ∈ xs, 0 ≤ x ∧ x ≤ 255) (hn : n ≤ 3000) (hc : n ≤ c) (hc2 : c ≤ 9223372036854775807) (G I D q y : Int) (hy : 0 ≤ y ∧ y ≤ 255) (hr : rdB xs = true) :
    Calls Try.prog 4 #[.slice ao n c, geo G I D, .int .i64 q, .int .u8 y] w fun e w' => e = .returned (.bool true) ∧ Below w.heap.size w w' := by
  have hn5 : decide ((3000 : Int) < (n : Int)) = false := decide_eq_false (by omega)
  have HBA : Hid (∀ W, Below w.heap.size w W → BAt W ao n xs) := Hid.mk (fun W hB => h.only (Only.of_new (fun _ => False) hB) (fun _ _ _ h => h))
  have HRD : Hid (∀ W, Below w.heap.size w W → Calls Try.prog 10 #[.slice ao n c] W fun e w' => e = .returned (.tuple #[geo (gOf xs) (iOf xs) (dOf xs), .int .i64 0]) ∧ Below W.heap.size W w') := Hid.mk (fun W hB => by
    have h := read_any W ao n c xs (HBA.out W hB) hx hc hc2
    rwa [(rd_yes hr).1, (rd_yes hr).2] at h)
  have HRS : Hid (∀ W, Below w.heap.size w W → Calls Try.prog 12 #[.slice ao n c] W fun e w' => e = .returned (.tuple #[geo (gOf xs) (iOf xs) (dOf xs), .bool true]) ∧ Below W.heap.size W w') := Hid.mk (fun W hB => by
    have h := rsuper_any W ao n c xs (HBA.out W hB) hx
    rwa [(rd_yes hr).1, hr] at h)
  clear h hx hr hc hc2 HBA
  generalize gOf xs = G0 at *
  generalize iOf xs = I0 at *
  generalize dOf xs = D0 at *
  go_enter Try.func4, Try.ntmps4
  go_upto_region 8 with (first
    | (go_at_call 6; refine (alive_any _).mono ?_; rintro e w1 ⟨rfl, hB⟩; obtain ⟨hG1, hB1⟩ := behind hB; have HG1 := Hid.mk hG1; have HB1 := Hid.mk hB1; clear hB hG1 hB1)
    | (go_at_call 10; refine (HRD.out _ HB1.out).mono ?_; rintro e w2 ⟨rfl, hB⟩; obtain ⟨hG2, hB2⟩ := HG1.out.then HB1.out hB; clear HG1 HB1; have HG1 := Hid.mk (hG2.below ((Below.refl _ w2).alloc (Nat.le_refl _) (.cells #[.int .i64 G0, .int .i64 I0, .int .i64 D0] 23)) hG2.lt); have HB1 := Hid.mk (hB2.alloc hB2.size (.cells #[.int .i64 G0, .int .i64 I0, .int .i64 D0] 23)); clear hB hG2 hB2)
    | (go_at_call 12; refine (HRS.out _ HB1.out).mono ?_; rintro e w4 ⟨rfl, hB⟩; have hq := GAt.below (GAt.new w2 G0 I0 D0) hB (by simp); have hlt4 : w2.heap.size < w4.heap.size := hq.lt; obtain ⟨c0, c1, c2⟩ := hq.g3; obtain ⟨hG2, hB2⟩ := HG1.out.then HB1.out hB; clear HG1 HB1; have HG1 := Hid.mk (hG2.below ((Below.refl _ w4).alloc (Nat.le_refl _) (.cells #[.int .i64 G0, .int .i64 I0, .int .i64 D0] 23)) hG2.lt); have HB1 := Hid.mk (hB2.alloc hB2.size (.cells #[.int .i64 G0, .int .i64 I0, .int .i64 D0] 23)); clear hB hG2 hB2 hq)
    | (go_at_call 9; refine (num_any _ _).mono ?_; rintro e w3 ⟨rfl, hw⟩; subst w3))
  obtain ⟨W5, hW5⟩ : ∃ W5, W5 = w4.alloc (.cells #[.int .i64 G0, .int .i64 I0, .int .i64 D0] 23) := ⟨_, rfl⟩
  rw [← hW5] at HG1 HB1 ⊢
  obtain ⟨g0, g1, g2⟩ := HG1.out.g3
  clear hW5 c0 c1 c2 hlt4 HRD HRS
  cases hg : good G I D with
  | false =>
    have HG := Hid.mk hg
    clear hg
    go_wp2_with (go_at_call 7; refine (good_is _ G I D false HG.out).mono ?_; rintro e w6 ⟨rfl, hB⟩; obtain ⟨hG2, hB2⟩ := HG1.out.then HB1.out hB; clear HG1 HB1; have HG1 := Hid.mk hG2; have HB1 := Hid.mk hB2; clear hB hG2 hB2; clear g0 g1 g2)
    go_ret
    exact ⟨rfl, HB1.out⟩
  | true =>
    have HG := Hid.mk hg
    clear hg
    by_cases hq0 : q < 0
    · have hq1 : decide (q < 0) = true := decide_eq_true hq0
      go_wp2_with (go_at_call 7; refine (good_is _ G I D true HG.out).mono ?_; rintro e w6 ⟨rfl, hB⟩; obtain ⟨hG2, hB2⟩ := HG1.out.then HB1.out hB; clear HG1 HB1; have HG1 := Hid.mk hG2; have HB1 := Hid.mk hB2; clear hB hG2 hB2; clear g0 g1 g2)
      go_ret
      exact ⟨rfl, HB1.out⟩
    · by_cases hq2 : 1024 ≤ q
      · have hq1 : decide (q < 0) = false := decide_eq_false hq0
        go_wp2_with (go_at_call 7; refine (good_is _ G I D true HG.out).mono ?_; rintro e w6 ⟨rfl, hB⟩; obtain ⟨hG2, hB2⟩ := HG1.out.then HB1.out hB; clear HG1 HB1; have HG1 := Hid.mk hG2; have HB1 := Hid.mk hB2; clear hB hG2 hB2; clear g0 g1 g2)
        go_ret
        exact ⟨rfl, HB1.out⟩
      · by_cases hy0 : y = 0
        · subst hy0
          go_wp2_with (go_at_call 7; refine (good_is _ G I D true HG.out).mono ?_; rintro e w6 ⟨rfl, hB⟩; obtain ⟨hG2, hB2⟩ := HG1.out.then HB1.out hB; clear HG1 HB1; have HG1 := Hid.mk hG2; have HB1 := Hid.mk hB2; clear hB hG2 hB2; clear g0 g1 g2)
          go_ret
          exact ⟨rfl, HB1.out⟩
        · have hy1 : (y == 0) = false := by simp [hy0]
          obtain ⟨k, rfl⟩ : ∃ k : Nat, q = k := ⟨q.toNat, by omega⟩
          have hk : k < 1024 := by omega
          clear hq0 hq2
          go_wp2_with (first
            | (go_at_call 7; refine (good_is _ G I D true HG.out).mono ?_; rintro e w6 ⟨rfl, hB⟩; obtain ⟨hG2, hB2⟩ := HG1.out.then HB1.out hB; clear HG1 HB1; have HG1 := Hid.mk hG2; have HB1 := Hid.mk hB2; clear hB hG2 hB2; clear g0 g1 g2; obtain ⟨g0, g1, g2⟩ := HG1.out.g3)
            | (go_at_call 11; refine (packsuper_any _ G I D HG.out).mono ?_; rintro e w7 ⟨v7, rfl, ho7, hB⟩; obtain ⟨g, cap, rfl, hge, hglt, hcap, -⟩ := owns_bytes ho7 (by rintro rfl; rcases ho7.2 with h2 | ⟨_, _, _, h2, _⟩; omega; cases h2); obtain ⟨hc1, hc2, -⟩ := owns_cell ho7 k hk; obtain ⟨ga, hga⟩ : ∃ ga : Addr, ga = ⟨g, 0, none⟩ := ⟨_, rfl⟩; have hadd : ga.add k = ⟨g, k, none⟩ := by rw [hga, add_at, Nat.zero_add]
               rw [← hadd] at hc1 hc2; rw [← hga]; have HGA := Hid.mk hga; have HADD := Hid.mk hadd; obtain ⟨x, hxe⟩ : ∃ x, x = (superL G I D).getD k 0 := ⟨_, rfl⟩; rw [← hxe] at hc1; have HRT := Hid.mk (read_turned w7 _ g cap k G I D x y ga hga ho7 hk hy hy0 hxe); have hBn := HB1.out.trans (hB.mono HB1.out.size); have hgn := Nat.le_trans HB1.out.size hge; clear HB1; have HB1 := Hid.mk hBn; have HGN := Hid.mk hgn; clear hga hadd hxe ho7 hBn hgn hB hge hglt hcap g0 g1 g2)
            | (go_at_call 10; refine HRT.out.mono ?_; rintro e w8 ⟨rfl, hB⟩; have hBs := HB1.out.setCell (p := ga.add k) (by rw [HADD.out]; exact HGN.out) (.int .u8 (bits BinOp.xor IntKind.u8 x y)); have hBn := hBs.trans (hB.mono hBs.size); clear HB1 hBs hB; have HB1 := Hid.mk hBn; clear hBn)
            | (go_at_call 9; refine (num_any _ _).mono ?_; rintro e w3 ⟨rfl, hw⟩; subst w3))
          go_ret
          exact ⟨rfl, HB1.out.alloc HB1.out.size _⟩

set_option maxRecDepth 100000 in
set_option maxHeartbeats 4000000 in
theorem reads_no (w : World) (ao : Option Addr) (n c : Nat) (xs : List Int) (h : BAt w ao n xs) (hx : ∀ x ∈ xs, 0 ≤ x ∧ x ≤ 255) (hn : n ≤ 3000) (hc : n ≤ c) (hc2 : c ≤ 9223372036854775807) (G I D q y : Int) (hy : 0 ≤ y ∧ y ≤ 255) (hr : rdB xs = false) :
    Calls Try.prog 4 #[.slice ao n c, geo G I D, .int .i64 q, .int .u8 y] w fun e w' => e = .returned (.bool true) ∧ Below w.heap.size w w' := by
  have hn5 : decide ((3000 : Int) < (n : Int)) = false := decide_eq_false (by omega)
  have HBA : Hid (∀ W, Below w.heap.size w W → BAt W ao n xs) := Hid.mk (fun W hB => h.only (Only.of_new (fun _ => False) hB) (fun _ _ _ h => h))
  have HRD : Hid (∀ W, Below w.heap.size w W → Calls Try.prog 10 #[.slice ao n c] W fun e w' => e = .returned (.tuple #[geo 0 0 0, .int .i64 4]) ∧ Below W.heap.size W w') := Hid.mk (fun W hB => by
    have h := read_any W ao n c xs (HBA.out W hB) hx hc hc2
    rwa [(rd_no hr).1, (rd_no hr).2] at h)
  have HRS : Hid (∀ W, Below w.heap.size w W → Calls Try.prog 12 #[.slice ao n c] W fun e w' => e = .returned (.tuple #[geo 0 0 0, .bool false]) ∧ Below W.heap.size W w') := Hid.mk (fun W hB => by
    have h := rsuper_any W ao n c xs (HBA.out W hB) hx
    rwa [(rd_no hr).1, hr] at h)
  clear h hx hr hc hc2 HBA
  skip
  skip
  skip
  go_enter Try.func4, Try.ntmps4
  go_upto_region 8 with (first
    | (go_at_call 6; refine (alive_any _).mono ?_; rintro e w1 ⟨rfl, hB⟩; obtain ⟨hG1, hB1⟩ := behind hB; have HG1 := Hid.mk hG1; have HB1 := Hid.mk hB1; clear hB hG1 hB1)
    | (go_at_call 10; refine (HRD.out _ HB1.out).mono ?_; rintro e w2 ⟨rfl, hB⟩; obtain ⟨hG2, hB2⟩ := HG1.out.then HB1.out hB; clear HG1 HB1; have HG1 := Hid.mk (hG2.below ((Below.refl _ w2).alloc (Nat.le_refl _) (.cells #[.int .i64 0, .int .i64 0, .int .i64 0] 23)) hG2.lt); have HB1 := Hid.mk (hB2.alloc hB2.size (.cells #[.int .i64 0, .int .i64 0, .int .i64 0] 23)); clear hB hG2 hB2)
    | (go_at_call 12; refine (HRS.out _ HB1.out).mono ?_; rintro e w4 ⟨rfl, hB⟩; have hq := GAt.below (GAt.new w2 0 0 0) hB (by simp); have hlt4 : w2.heap.size < w4.heap.size := hq.lt; obtain ⟨c0, c1, c2⟩ := hq.g3; obtain ⟨hG2, hB2⟩ := HG1.out.then HB1.out hB; clear HG1 HB1; have HG1 := Hid.mk (hG2.below ((Below.refl _ w4).alloc (Nat.le_refl _) (.cells #[.int .i64 0, .int .i64 0, .int .i64 0] 23)) hG2.lt); have HB1 := Hid.mk (hB2.alloc hB2.size (.cells #[.int .i64 0, .int .i64 0, .int .i64 0] 23)); clear hB hG2 hB2 hq)
    | (go_at_call 9; refine (num_any _ _).mono ?_; rintro e w3 ⟨rfl, hw⟩; subst w3))
  obtain ⟨W5, hW5⟩ : ∃ W5, W5 = w4.alloc (.cells #[.int .i64 0, .int .i64 0, .int .i64 0] 23) := ⟨_, rfl⟩
  rw [← hW5] at HG1 HB1 ⊢
  obtain ⟨g0, g1, g2⟩ := HG1.out.g3
  clear hW5 c0 c1 c2 hlt4 HRD HRS
  cases hg : good G I D with
  | false =>
    have HG := Hid.mk hg
    clear hg
    go_wp2_with (go_at_call 7; refine (good_is _ G I D false HG.out).mono ?_; rintro e w6 ⟨rfl, hB⟩; obtain ⟨hG2, hB2⟩ := HG1.out.then HB1.out hB; clear HG1 HB1; have HG1 := Hid.mk hG2; have HB1 := Hid.mk hB2; clear hB hG2 hB2; clear g0 g1 g2)
    go_ret
    exact ⟨rfl, HB1.out⟩
  | true =>
    have HG := Hid.mk hg
    clear hg
    by_cases hq0 : q < 0
    · have hq1 : decide (q < 0) = true := decide_eq_true hq0
      go_wp2_with (go_at_call 7; refine (good_is _ G I D true HG.out).mono ?_; rintro e w6 ⟨rfl, hB⟩; obtain ⟨hG2, hB2⟩ := HG1.out.then HB1.out hB; clear HG1 HB1; have HG1 := Hid.mk hG2; have HB1 := Hid.mk hB2; clear hB hG2 hB2; clear g0 g1 g2)
      go_ret
      exact ⟨rfl, HB1.out⟩
    · by_cases hq2 : 1024 ≤ q
      · have hq1 : decide (q < 0) = false := decide_eq_false hq0
        go_wp2_with (go_at_call 7; refine (good_is _ G I D true HG.out).mono ?_; rintro e w6 ⟨rfl, hB⟩; obtain ⟨hG2, hB2⟩ := HG1.out.then HB1.out hB; clear HG1 HB1; have HG1 := Hid.mk hG2; have HB1 := Hid.mk hB2; clear hB hG2 hB2; clear g0 g1 g2)
        go_ret
        exact ⟨rfl, HB1.out⟩
      · by_cases hy0 : y = 0
        · subst hy0
          go_wp2_with (go_at_call 7; refine (good_is _ G I D true HG.out).mono ?_; rintro e w6 ⟨rfl, hB⟩; obtain ⟨hG2, hB2⟩ := HG1.out.then HB1.out hB; clear HG1 HB1; have HG1 := Hid.mk hG2; have HB1 := Hid.mk hB2; clear hB hG2 hB2; clear g0 g1 g2)
          go_ret
          exact ⟨rfl, HB1.out⟩
        · have hy1 : (y == 0) = false := by simp [hy0]
          obtain ⟨k, rfl⟩ : ∃ k : Nat, q = k := ⟨q.toNat, by omega⟩
          have hk : k < 1024 := by omega
          clear hq0 hq2
          go_wp2_with (first
            | (go_at_call 7; refine (good_is _ G I D true HG.out).mono ?_; rintro e w6 ⟨rfl, hB⟩; obtain ⟨hG2, hB2⟩ := HG1.out.then HB1.out hB; clear HG1 HB1; have HG1 := Hid.mk hG2; have HB1 := Hid.mk hB2; clear hB hG2 hB2; clear g0 g1 g2; obtain ⟨g0, g1, g2⟩ := HG1.out.g3)
            | (go_at_call 11; refine (packsuper_any _ G I D HG.out).mono ?_; rintro e w7 ⟨v7, rfl, ho7, hB⟩; obtain ⟨g, cap, rfl, hge, hglt, hcap, -⟩ := owns_bytes ho7 (by rintro rfl; rcases ho7.2 with h2 | ⟨_, _, _, h2, _⟩; omega; cases h2); obtain ⟨hc1, hc2, -⟩ := owns_cell ho7 k hk; obtain ⟨ga, hga⟩ : ∃ ga : Addr, ga = ⟨g, 0, none⟩ := ⟨_, rfl⟩; have hadd : ga.add k = ⟨g, k, none⟩ := by rw [hga, add_at, Nat.zero_add]
               rw [← hadd] at hc1 hc2; rw [← hga]; have HGA := Hid.mk hga; have HADD := Hid.mk hadd; obtain ⟨x, hxe⟩ : ∃ x, x = (superL G I D).getD k 0 := ⟨_, rfl⟩; rw [← hxe] at hc1; have HRT := Hid.mk (read_turned w7 _ g cap k G I D x y ga hga ho7 hk hy hy0 hxe); have hBn := HB1.out.trans (hB.mono HB1.out.size); have hgn := Nat.le_trans HB1.out.size hge; clear HB1; have HB1 := Hid.mk hBn; have HGN := Hid.mk hgn; clear hga hadd hxe ho7 hBn hgn hB hge hglt hcap g0 g1 g2)
            | (go_at_call 10; refine HRT.out.mono ?_; rintro e w8 ⟨rfl, hB⟩; have hBs := HB1.out.setCell (p := ga.add k) (by rw [HADD.out]; exact HGN.out) (.int .u8 (bits BinOp.xor IntKind.u8 x y)); have hBn := hBs.trans (hB.mono hBs.size); clear HB1 hBs hB; have HB1 := Hid.mk hBn; clear hBn)
            | (go_at_call 9; refine (num_any _ _).mono ?_; rintro e w3 ⟨rfl, hw⟩; subst w3))
          go_ret
          exact ⟨rfl, HB1.out.alloc HB1.out.size _⟩

theorem reads_any (w : World) (ao : Option Addr) (n c : Nat) (xs : List Int) (h : BAt w ao n xs) (hx : ∀ x ∈ xs, 0 ≤ x ∧ x ≤ 255) (hc : n ≤ c) (hc2 : c ≤ 9223372036854775807) (G I D q y : Int) (hy : 0 ≤ y ∧ y ≤ 255) :
    Calls Try.prog 4 #[.slice ao n c, geo G I D, .int .i64 q, .int .u8 y] w fun e w' => e = .returned (.bool true) ∧ Below w.heap.size w w' := by
  by_cases hn : 3000 < n
  · exact reads_long w ao n c G I D q y hn (by omega)
  · cases hr : rdB xs with
    | true => exact reads_yes w ao n c xs h hx (by omega) hc hc2 G I D q y hy hr
    | false => exact reads_no w ao n c xs h hx (by omega) hc hc2 G I D q y hy hr
end Go.Proofs.Ytebeejmpnkdllaa
