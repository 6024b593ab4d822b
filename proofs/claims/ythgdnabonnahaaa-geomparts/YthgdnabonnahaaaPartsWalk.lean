/-
  GeomParts: each block is one thing only.
-/
import Derived.Test.YthgdnabonnahaaaPartsBase
namespace Go.Proofs.Ythgdnabonnahaaa
open Go Go.Proofs Go.RowKit Go.Shelf

theorem info3 : (Try.prog.info? 3).map (fun i => (i.zero, i.size, i.bytes)) = some (some (.int .i64 0), 1, 8) := by kernel_rfl

theorem made_ints {w w' : World} {n : Nat} (hown : w'.ownsRow w.heap.size 3 1 (.slice (some ⟨w.heap.size, 0, none⟩) n n) n (madeCells (Value.int .i64 0).cells (n * 1)).toList) (hg : w.grownBy w' none) :
    WA w.heap.size n (fun _ => 0) w' ∧ Below w.heap.size w w' := by
  obtain ⟨_, hb⟩ := owns_full hown
  rw [Nat.mul_one] at hb
  refine ⟨?_, (Below.refl _ w).grown hg (Nat.le_refl _) (by simp)⟩
  unfold WA
  rw [hb, show (Value.int .i64 0).cells = #[Value.int .i64 0] from rfl, toList_madeCells_one]
  congr 3
  simp [rowF, List.map_const']

/-- Between two rounds: the geometry and the row lie there. -/
structure LI (w : World) (G I D : Int) (a n : Nat) (f : Nat → Int) (W : World) : Prop where
  g : GAt w.heap.size G I D W
  r : WA a n f W
  b : Below w.heap.size w W
  lt : w.heap.size < a
theorem LI.call {w : World} {G I D : Int} {a n : Nat} {f : Nat → Int} {W W' : World} (h : LI w G I D a n f W) (hB : Below W.heap.size W W') : LI w G I D a n f W' :=
  ⟨h.g.below hB h.g.lt, h.r.below hB, h.b.trans (hB.mono h.b.size), h.lt⟩
theorem LI.set {w : World} {G I D : Int} {a n : Nat} {f : Nat → Int} {W : World} (h : LI w G I D a n f W) (b : Nat) (v : Int) : LI w G I D a n (fun x => if x = b then v else f x) (W.setCell ⟨a, b, none⟩ (.int .i64 v)) := by
  refine ⟨?_, h.r.set b v, h.b.setCell (p := ⟨a, b, none⟩) (Nat.le_of_lt h.lt) _, h.lt⟩
  unfold GAt
  rw [Below.heap_setCell _ _ _ _ (show w.heap.size ≠ a by have := h.lt; omega)]
  exact h.g
theorem LI.congr {w : World} {G I D : Int} {a n : Nat} {f g : Nat → Int} {W : World} (h : LI w G I D a n f W) (e : ∀ b, b < n → f b = g b) : LI w G I D a n g W := ⟨h.g, h.r.congr e, h.b, h.lt⟩
theorem LI.g3 {w : World} {G I D : Int} {a n : Nat} {f : Nat → Int} {W : World} (h : LI w G I D a n f W) : G3 w.heap.size G I D W := h.g.g3
theorem LI.cell {w : World} {G I D : Int} {a n : Nat} {f : Nat → Int} {W : World} (h : LI w G I D a n f W) {b : Nat} (hb : b < n) : W.cell? ⟨a, b, none⟩ = some (.int .i64 (f b)) := h.r.cell hb
theorem LI.free {w : World} {G I D : Int} {a n : Nat} {f : Nat → Int} {W : World} (h : LI w G I D a n f W) (b : Nat) : W.frozen? ⟨a, b, none⟩ = false := h.r.free b

set_option maxRecDepth 100000 in
theorem parts_no (w : World) (G I D : Int) (hg : good G I D = false) : Calls Try.prog 4 #[geo G I D] w fun e w' => e = .returned (.bool true) ∧ Below w.heap.size w w' := by
  have HG := Hid.mk hg
  clear hg
  go_enter Try.func4, Try.ntmps4
  go_wp2_with (first | (go_at_call 6; refine (alive_any _).mono ?_; rintro e w1 ⟨rfl, hB⟩; obtain ⟨hG1, hB1⟩ := behind hB; obtain ⟨c0, c1, c2⟩ := hG1.g3; have HG1 := Hid.mk hG1; have HB1 := Hid.mk hB1; clear hB hG1 hB1) | (go_at_call 7; refine (good_is _ G I D false HG.out).mono ?_; rintro e w1 ⟨rfl, hB⟩; obtain ⟨hG1, hB1⟩ := HG1.out.then HB1.out hB; clear c0 c1 c2 HG1 HB1; obtain ⟨c0, c1, c2⟩ := hG1.g3; have HG1 := Hid.mk hG1; have HB1 := Hid.mk hB1; clear hB hG1 hB1))
  go_ret
  exact ⟨rfl, HB1.out⟩

set_option maxRecDepth 100000 in
theorem parts_big (w : World) (G I D : Int) (hg : good G I D = true) (hD : 60 < D) : Calls Try.prog 4 #[geo G I D] w fun e w' => e = .returned (.bool true) ∧ Below w.heap.size w w' := by
  have HG := Hid.mk hg
  clear hg
  go_enter Try.func4, Try.ntmps4
  go_wp2_with (first | (go_at_call 6; refine (alive_any _).mono ?_; rintro e w1 ⟨rfl, hB⟩; obtain ⟨hG1, hB1⟩ := behind hB; obtain ⟨c0, c1, c2⟩ := hG1.g3; have HG1 := Hid.mk hG1; have HB1 := Hid.mk hB1; clear hB hG1 hB1) | (go_at_call 7; refine (good_is _ G I D true HG.out).mono ?_; rintro e w1 ⟨rfl, hB⟩; obtain ⟨hG1, hB1⟩ := HG1.out.then HB1.out hB; clear c0 c1 c2 HG1 HB1; obtain ⟨c0, c1, c2⟩ := hG1.g3; have HG1 := Hid.mk hG1; have HB1 := Hid.mk hB1; clear hB hG1 hB1))
  go_ret
  exact ⟨rfl, HB1.out⟩

set_option maxRecDepth 100000 in
set_option maxHeartbeats 8000000 in
theorem parts_main (w : World) (G I D : Int) (hg : good G I D = true) (hD : ¬ 60 < D) : Calls Try.prog 4 #[geo G I D] w fun e w' => e = .returned (.bool true) ∧ Below w.heap.size w w' := by
  have HG := Hid.mk hg
  have hb := good_iff.1 hg
  have m1 := mul_fits (a := G) (A := 8) (b := 1 + I + D) (B := 1005) (by omega) (by omega) (by omega) (by omega)
  obtain ⟨n, en⟩ : ∃ n : Nat, 1 + G * (1 + I + D) = n := ⟨(1 + G * (1 + I + D)).toNat, by omega⟩
  have H10 : Hid (∀ w : World, Calls Try.prog 10 #[geo G I D] w fun e w' => e = .returned (.int .i64 (n : Int)) ∧ Below w.heap.size w w') := Hid.mk (fun w => by have h := total_any w G I D; rwa [tot_yes hg, en] at h)
  have HBD := Hid.mk hb
  have HN : Hid ((n : Int) = 1 + G * (1 + I + D) ∧ n ≤ 8100 ∧ 1 ≤ n) := Hid.mk (by omega)
  obtain ⟨i0, hi, hz0, hz1, hz2⟩ := info_parts info3
  clear hg hb m1 en
  go_enter Try.func4, Try.ntmps4
  go_wp2_with (first | (go_at_call 6; refine (alive_any _).mono ?_; rintro e w1 ⟨rfl, hB⟩; obtain ⟨hG1, hB1⟩ := behind hB; obtain ⟨c0, c1, c2⟩ := hG1.g3; have HG1 := Hid.mk hG1; have HB1 := Hid.mk hB1; clear hB hG1 hB1) | (go_at_call 7; refine (good_is _ G I D true HG.out).mono ?_; rintro e w1 ⟨rfl, hB⟩; obtain ⟨hG1, hB1⟩ := HG1.out.then HB1.out hB; clear c0 c1 c2 HG1 HB1; obtain ⟨c0, c1, c2⟩ := hG1.g3; have HG1 := Hid.mk hG1; have HB1 := Hid.mk hB1; clear hB hG1 hB1) | (go_at_call 10; refine (H10.out _).mono ?_; rintro e w1 ⟨rfl, hB⟩; obtain ⟨hG1, hB1⟩ := HG1.out.then HB1.out hB; clear c0 c1 c2 HG1 HB1; obtain ⟨c0, c1, c2⟩ := hG1.g3; have HG1 := Hid.mk hG1; have HB1 := Hid.mk hB1; clear hB hG1 hB1) | (at_make; refine wpList_make_full _ rfl _ _ 35 rfl w1.heap.size 3 i0 (.int .i64 0) 1 Try.underlying35 hi hz0 hz1 .i64 .i64 _ _ n rfl rfl rfl rfl (by rw [hz2]; have := HN.out; omega) (by unfold maxLen; have := HN.out; omega) (Nat.le_refl _) ?_; intro w3 hown hgr; obtain ⟨hW3, hB3⟩ := made_ints hown hgr; have HL := Hid.mk (LI.mk (HG1.out.below hB3 HG1.out.lt) hW3 (HB1.out.trans (hB3.mono HB1.out.size)) HG1.out.lt); clear hown hgr hW3 hB3 c0 c1 c2 HG1 HB1; obtain ⟨c0, c1, c2⟩ := HL.out.g3))
  clear hi hz0 hz1 hz2 c0 c1 c2 hD H10
  generalize w1.heap.size = a at *
  clear w1
  go_loopw [6] (fun i wr => ∃ k : Int, i = .int .i64 k ∧ 0 ≤ k ∧ k ≤ G ∧ LI w G I D a n (wh1 (1 + I + D) k) wr) (fun i _ => (8 - intOf i).toNat)
  case atStart => exact ⟨0, rfl, by omega, by have := HBD.out; omega, HL.out.congr (fun b _ => (wh1_zero (by have := HBD.out; omega) b).symm)⟩
  case round =>
    clear HL
    obtain ⟨k, rfl, hk0, hkG, hL0⟩ := hrel
    obtain ⟨c0, c1, c2⟩ := hL0.g3
    have HL := Hid.mk hL0
    clear hL0
    by_cases hk : k < G
    · have hb := HBD.out
      have m2 := mul_fits (a := k) (A := 8) (b := 1 + I + D) (B := 1005) (by omega) (by omega) (by omega) (by omega)
      have m3 : (k + 1) * (1 + I + D) ≤ G * (1 + I + D) := Int.mul_le_mul_of_nonneg_right (by omega) (by omega)
      rw [step_mul] at m3
      obtain ⟨h, eh⟩ : ∃ h : Nat, 1 + k * (1 + I + D) = h := ⟨(1 + k * (1 + I + D)).toNat, by omega⟩
      have hn := HN.out
      have hlt : h < n := by omega
      have j1 : ¬ (h : Int) < 1 := by omega
      have j2 : (h : Int) < (n : Int) := by omega
      have hval := wh1_at (P := 1 + I + D) (by omega) eh
      have HS : Hid (∀ b, (if b = h then 1 else wh1 (1 + I + D) k b) = wh1 (1 + I + D) (k + 1) b) := Hid.mk (wh1_step (by omega) hk0 eh)
      have H16 : Hid (∀ w : World, Calls Try.prog 16 #[geo G I D, .int .i64 k] w fun e w' => e = .returned (.tuple #[.int .i64 (h : Int), .bool true]) ∧ Below w.heap.size w w') := Hid.mk (fun w => by have x := head_any w G I D k; rwa [(hd_yes HG.out hk0 hk).1, (hd_yes HG.out hk0 hk).2, eh] at x)
      have wk : IntKind.i64.wrap (k + 1) = k + 1 := by rw [IntKind.wrap_i64]; omega
      have HM : Hid (0 ≤ k + 1 ∧ k + 1 ≤ G ∧ k < 8) := Hid.mk (by omega)
      clear hb m2 m3 hn eh hk0 hkG
      go_wp2_with (go_at_call 16; refine (H16.out _).mono ?_; rintro e w5 ⟨rfl, hB⟩; have hL := HL.out.call hB; clear c0 c1 c2 HL hB; obtain ⟨c0, c1, c2⟩ := hL.g3; have cb := hL.cell hlt; rw [hval] at cb; have fb := hL.free h; have HL := Hid.mk hL; clear hL)
      go_roundw
      case rel => exact ⟨k + 1, rfl, HM.out.1, HM.out.2.1, (HL.out.set h 1).congr (fun b _ => HS.out b)⟩
      case measure => (have := HM.out; simp [intOf]; omega)
    · have hkE : k = G := by omega
      have hL1 := HL.out
      rw [hkE] at hL1
      have HL2 := Hid.mk (hL1.congr (g := wh2 I (1 + I + D) 1) (fun b hb => wh1_end (by have := HBD.out; omega) (by have := HBD.out; omega) HN.out.1 hb))
      clear HL hL1 hkE hk0 hkG
      have HL := HL2
      clear HL2
      obtain ⟨N, eN⟩ : ∃ N, G * (I * 16) = N := ⟨_, rfl⟩
      have HNN : Hid (G * (I * 16) = N ∧ 0 ≤ N ∧ N ≤ 512) := Hid.mk (by
        have hb := HBD.out
        have := mul_fits (a := G) (A := 8) (b := I * 16) (B := 64) (by omega) (by omega) (by omega) (by omega)
        omega)
      have H12 : Hid (∀ w : World, Calls Try.prog 12 #[geo G I D] w fun e w' => e = .returned (.int .i64 N) ∧ Below w.heap.size w w') := Hid.mk (fun w => by have h := inodes_any w G I D; rwa [ino_yes HG.out, eN] at h)
      clear eN
      go_wp2_with fail
      clear hk c0 c1 c2
      go_loopw [9] (fun i wr => ∃ j : Int, i = .int .i64 j ∧ 1 ≤ j ∧ j ≤ N + 1 ∧ LI w G I D a n (wh2 I (1 + I + D) j) wr) (fun i _ => (N + 1 - intOf i).toNat)
      case atStart => exact ⟨1, rfl, by omega, by have := HNN.out; omega, HL.out⟩
      case round =>
        clear HL
        obtain ⟨j, rfl, hj0, hjN, hL0⟩ := hrel
        obtain ⟨c0, c1, c2⟩ := hL0.g3
        have HL := Hid.mk hL0
        clear hL0
        by_cases hj : j ≤ N
        · have hb := HBD.out
          have hn := HN.out
          have hnn := HNN.out
          have hgr : grB G I D j = true := gr_iff.2 ⟨HG.out, by omega, by omega⟩
          obtain ⟨q, m, eq, em, hq0, hq1, hm0, hm1, hji, hia⟩ := ia_pos hgr
          have hin := ia_in hgr
          obtain ⟨h, eh⟩ : ∃ h : Nat, iaI G I D j = h := ⟨(iaI G I D j).toNat, by omega⟩
          obtain ⟨o, eo⟩ : ∃ o, iaO G I D j = o := ⟨_, rfl⟩
          have eo2 : m % 16 * 64 = o := by rw [← eo, (gr_yes hgr).2.2.2, em]
          have H18 : Hid (∀ w : World, Calls Try.prog 18 #[geo G I D, .int .i64 j] w fun e w' => e = .returned (.tuple #[.int .i64 (h : Int), .int .i64 o, .bool true]) ∧ Below w.heap.size w w') := Hid.mk (fun w => by have x := inodeat_any w G I D j; rwa [hgr, eh, eo] at x)
          have H24 : Hid (∀ w : World, Calls Try.prog 24 #[geo G I D, .int .i64 j] w fun e w' => e = .returned (.tuple #[.int .i64 q, .int .i64 m, .bool true]) ∧ Below w.heap.size w w') := Hid.mk (fun w => by have x := group_any w G I D j; rwa [hgr, (gr_yes hgr).1, (gr_yes hgr).2.1, eq, em] at x)
          have hlt : h < n := by omega
          have j1 : ¬ (h : Int) < 1 := by omega
          have j2 : (h : Int) < (n : Int) := by omega
          have hv1 := wh2_at hgr eh
          have HS : Hid (∀ b, (if b = h then 2 else wh2 I (1 + I + D) j b) = wh2 I (1 + I + D) (j + 1) b) := Hid.mk (wh2_step hgr eh)
          obtain ⟨v, hval⟩ : ∃ v, wh2 I (1 + I + D) j h = v := ⟨_, rfl⟩
          rw [hval] at hv1
          have hv2 : (v == 1) = false := by simpa using hv1
          have h16 := mul16 q I
          obtain ⟨u, eu⟩ : ∃ u, (j - 1) % 16 = u := ⟨_, rfl⟩
          have t1 : (j - 1).tmod 16 = u := by rw [Int.tmod_eq_emod_of_nonneg (by omega), eu]
          have w1' : IntKind.i64.wrap (j - 1) = j - 1 := by rw [IntKind.wrap_i64]; omega
          have w2' : IntKind.i64.wrap u = u := by rw [IntKind.wrap_i64]; omega
          have w3' : IntKind.i64.wrap (u * 64) = o := by rw [IntKind.wrap_i64]; omega
          obtain ⟨x, ex⟩ : ∃ x, q * 16 = x := ⟨_, rfl⟩
          have w4' : IntKind.i64.wrap (q * 16) = x := by rw [IntKind.wrap_i64]; omega
          have h17 : x * I = q * I * 16 := by rw [← ex, Int.mul_assoc, Int.mul_comm 16 I, ← Int.mul_assoc]
          obtain ⟨z, ez⟩ : ∃ z, x * I = z := ⟨_, rfl⟩
          have hqI : 0 ≤ q * I := Int.mul_nonneg hq0 (by omega)
          have w5' : IntKind.i64.wrap (x * I) = z := by rw [IntKind.wrap_i64]; omega
          have w6' : IntKind.i64.wrap (z + m) = j - 1 := by rw [IntKind.wrap_i64]; omega
          have w7' : IntKind.i64.wrap (j + 1) = j + 1 := by rw [IntKind.wrap_i64]; omega
          have HM : Hid (1 ≤ j + 1 ∧ j + 1 ≤ N + 1 ∧ j ≤ N) := Hid.mk (by omega)
          clear hb hn hnn hgr eq em hq0 hq1 hm0 hm1 hji hia hin eh eo eo2 h16 eu ex h17 ez hqI hj0 hjN
          go_wp2_with (first | (go_at_call 12; refine (H12.out _).mono ?_; rintro e w5 ⟨rfl, hB⟩; have hL := HL.out.call hB; clear c0 c1 c2 HL hB; obtain ⟨c0, c1, c2⟩ := hL.g3; have HL := Hid.mk hL; clear hL) | (go_at_call 18; refine (H18.out _).mono ?_; rintro e w5 ⟨rfl, hB⟩; have hL := HL.out.call hB; clear c0 c1 c2 HL hB; obtain ⟨c0, c1, c2⟩ := hL.g3; have HL := Hid.mk hL; clear hL) | (go_at_call 24; refine (H24.out _).mono ?_; rintro e w5 ⟨rfl, hB⟩; have hL := HL.out.call hB; clear c0 c1 c2 HL hB; obtain ⟨c0, c1, c2⟩ := hL.g3; have cb := hL.cell hlt; rw [hval] at cb; have fb := hL.free h; have HL := Hid.mk hL; clear hL))
          go_roundw
          case rel => exact ⟨j + 1, rfl, HM.out.1, HM.out.2.1, (HL.out.set h 2).congr (fun b _ => HS.out b)⟩
          case measure => (have := HM.out; simp [intOf]; omega)
        · have hjE : j = G * (I * 16) + 1 := by have := HNN.out; omega
          have hL1 := HL.out
          rw [hjE] at hL1
          have HL2 := Hid.mk (hL1.congr (g := wh3 I D (1 + I + D) 0) (fun b hb => wh2_end HG.out HN.out.1 hb))
          clear HL hL1 hjE hj0 hjN
          have HL := HL2
          clear HL2
          obtain ⟨Q, eQ⟩ : ∃ Q, G * D = Q := ⟨_, rfl⟩
          have HQQ : Hid (G * D = Q ∧ 0 ≤ Q ∧ Q ≤ 8000) := Hid.mk (by
            have hb := HBD.out
            have := mul_fits (a := G) (A := 8) (b := D) (B := 1000) (by omega) (by omega) (by omega) (by omega)
            omega)
          have H14 : Hid (∀ w : World, Calls Try.prog 14 #[geo G I D] w fun e w' => e = .returned (.int .i64 Q) ∧ Below w.heap.size w w') := Hid.mk (fun w => by have h := blocks_any w G I D; rwa [blk_yes HG.out, eQ] at h)
          clear eQ
          go_wp2_with (go_at_call 12; refine (H12.out _).mono ?_; rintro e w5 ⟨rfl, hB⟩; have hL := HL.out.call hB; clear c0 c1 c2 HL hB; obtain ⟨c0, c1, c2⟩ := hL.g3; have HL := Hid.mk hL; clear hL)
          clear hj c0 c1 c2 H12 HNN
          go_loopw [16] (fun i wr => ∃ j : Int, i = .int .i64 j ∧ 0 ≤ j ∧ j ≤ Q ∧ LI w G I D a n (wh3 I D (1 + I + D) j) wr) (fun i _ => (Q - intOf i).toNat)
          case atStart => exact ⟨0, rfl, by omega, by have := HQQ.out; omega, HL.out⟩
          case round =>
            clear HL
            obtain ⟨j, rfl, hj0, hjN, hL0⟩ := hrel
            obtain ⟨c0, c1, c2⟩ := hL0.g3
            have HL := Hid.mk hL0
            clear hL0
            by_cases hj : j < Q
            · have hb := HBD.out
              have hn := HN.out
              have hqq := HQQ.out
              obtain ⟨d1, d2, d3, d4⟩ := da_in (i := j) HG.out hj0 (by omega)
              have d5 := (da_yes (n := j) HG.out hj0 (by omega)).1
              obtain ⟨h, eh⟩ : ∃ h : Nat, daI G I D j = h := ⟨(daI G I D j).toNat, by omega⟩
              rw [eh] at d1 d2 d3 d4
              have H20 : Hid (∀ w : World, Calls Try.prog 20 #[geo G I D, .int .i64 j] w fun e w' => e = .returned (.tuple #[.int .i64 (h : Int), .bool true]) ∧ Below w.heap.size w w') := Hid.mk (fun w => by have x := wdata_any w G I D j; rwa [d5, eh] at x)
              have H22 : Hid (∀ w : World, Calls Try.prog 22 #[geo G I D, .int .i64 (h : Int)] w fun e w' => e = .returned (.tuple #[.int .i64 j, .bool true]) ∧ Below w.heap.size w w') := Hid.mk (fun w => by have x := wdataof_any w G I D h; rwa [d3, d4] at x)
              have hlt : h < n := by omega
              have j1 : ¬ (h : Int) < 1 := by omega
              have j2 : (h : Int) < (n : Int) := by omega
              have hval := wh3_at HG.out hj0 (by omega) eh
              have HS : Hid (∀ b, (if b = h then 3 else wh3 I D (1 + I + D) j b) = wh3 I D (1 + I + D) (j + 1) b) := Hid.mk (wh3_step HG.out hj0 (by omega) eh)
              have w7' : IntKind.i64.wrap (j + 1) = j + 1 := by rw [IntKind.wrap_i64]; omega
              have HM : Hid (0 ≤ j + 1 ∧ j + 1 ≤ Q ∧ j < Q) := Hid.mk (by omega)
              clear hb hn hqq d1 d2 d3 d4 d5 eh hj0 hjN
              go_wp2_with (first | (go_at_call 14; refine (H14.out _).mono ?_; rintro e w5 ⟨rfl, hB⟩; have hL := HL.out.call hB; clear c0 c1 c2 HL hB; obtain ⟨c0, c1, c2⟩ := hL.g3; have HL := Hid.mk hL; clear hL) | (go_at_call 20; refine (H20.out _).mono ?_; rintro e w5 ⟨rfl, hB⟩; have hL := HL.out.call hB; clear c0 c1 c2 HL hB; obtain ⟨c0, c1, c2⟩ := hL.g3; have HL := Hid.mk hL; clear hL) | (go_at_call 22; refine (H22.out _).mono ?_; rintro e w5 ⟨rfl, hB⟩; have hL := HL.out.call hB; clear c0 c1 c2 HL hB; obtain ⟨c0, c1, c2⟩ := hL.g3; have cb := hL.cell hlt; rw [hval] at cb; have fb := hL.free h; have HL := Hid.mk hL; clear hL))
              go_roundw
              case rel => exact ⟨j + 1, rfl, HM.out.1, HM.out.2.1, (HL.out.set h 3).congr (fun b _ => HS.out b)⟩
              case measure => (have := HM.out; simp [intOf]; omega)
            · have hjE : j = G * D := by have := HQQ.out; omega
              have hL1 := HL.out
              rw [hjE] at hL1
              have HL2 := Hid.mk hL1
              clear HL hL1 hjE hj0 hjN
              have HL := HL2
              clear HL2
              go_wp2_with (go_at_call 14; refine (H14.out _).mono ?_; rintro e w5 ⟨rfl, hB⟩; have hL := HL.out.call hB; clear c0 c1 c2 HL hB; obtain ⟨c0, c1, c2⟩ := hL.g3; have HL := Hid.mk hL; clear hL)
              clear hj c0 c1 c2 H14 HQQ
              go_loopw [21] (fun i wr => ∃ b : Nat, i = .int .i64 (b : Int) ∧ 1 ≤ b ∧ b ≤ n ∧ LI w G I D a n (wh3 I D (1 + I + D) (G * D)) wr) (fun i _ => ((n : Int) - intOf i).toNat)
              case atStart => exact ⟨1, rfl, by omega, HN.out.2.2, HL.out⟩
              case round =>
                clear HL
                obtain ⟨b, rfl, hb0, hbn, hL0⟩ := hrel
                obtain ⟨c0, c1, c2⟩ := hL0.g3
                have HL := Hid.mk hL0
                clear hL0
                by_cases hlt : b < n
                · have hn := HN.out
                  have j1 : (b : Int) < (n : Int) := by omega
                  have w7' : IntKind.i64.wrap ((b : Int) + 1) = (b : Int) + 1 := by rw [IntKind.wrap_i64]; omega
                  have HM : Hid (1 ≤ b + 1 ∧ b + 1 ≤ n ∧ b < n) := Hid.mk (by omega)
                  have H22 := Hid.mk (fun w => wdataof_any w G I D b)
                  have hend := wh3_end HG.out HN.out.1 hlt (show ¬ b = 0 by omega)
                  obtain ⟨v, hval⟩ : ∃ v, wh3 I D (1 + I + D) (G * D) b = v := ⟨_, rfl⟩
                  rw [hval] at hend
                  clear hn hb0 hbn
                  rcases hend with ⟨rfl, hd⟩ | ⟨v0, v3, hd⟩
                  · rw [hd] at H22
                    clear hd
                    go_wp2_with (go_at_call 22; refine (H22.out _).mono ?_; rintro e w5 ⟨rfl, hB⟩; have hL := HL.out.call hB; clear c0 c1 c2 HL hB; obtain ⟨c0, c1, c2⟩ := hL.g3; have cb := hL.cell hlt; rw [hval] at cb; have fb := hL.free b; have HL := Hid.mk hL; clear hL)
                    go_roundw
                    case rel => exact ⟨b + 1, by go_num, HM.out.1, HM.out.2.1, HL.out⟩
                    case measure => (have := HM.out; simp [intOf]; omega)
                  · rw [hd] at H22
                    have v0' : (v == 0) = false := by simpa using v0
                    have v3' : (v == 3) = false := by simpa using v3
                    clear hd
                    go_wp2_with (go_at_call 22; refine (H22.out _).mono ?_; rintro e w5 ⟨rfl, hB⟩; have hL := HL.out.call hB; clear c0 c1 c2 HL hB; obtain ⟨c0, c1, c2⟩ := hL.g3; have cb := hL.cell hlt; rw [hval] at cb; have fb := hL.free b; have HL := Hid.mk hL; clear hL)
                    go_roundw
                    case rel => exact ⟨b + 1, by go_num, HM.out.1, HM.out.2.1, HL.out⟩
                    case measure => (have := HM.out; simp [intOf]; omega)
                · have hbE : ¬ (b : Int) < (n : Int) := by omega
                  have cb := HL.out.cell (b := 0) (by have := HN.out; omega)
                  rw [show wh3 I D (1 + I + D) (G * D) 0 = 0 from by simp [wh3]] at cb
                  have j0 : (0 : Int) < (n : Int) := by have := HN.out; omega
                  clear hb0 hbn
                  go_wp2
                  go_ret
                  exact ⟨rfl, HL.out.b⟩

theorem parts_any (w : World) (G I D : Int) : Calls Try.prog 4 #[geo G I D] w fun e w' => e = .returned (.bool true) ∧ Below w.heap.size w w' := by
  cases hg : good G I D with
  | false => exact parts_no w G I D hg
  | true =>
    by_cases hD : 60 < D
    · exact parts_big w G I D hg hD
    · exact parts_main w G I D hg hD
end Go.Proofs.Ythgdnabonnahaaa
