/-
  The program's Same: slices.EqualFunc, slices.Equal and bytes.Equal over rows that came in.
-/
import Derived.Test.YtbahbhaoimabdaaWkRef
namespace Go.Proofs.Ytbahbhaoimabdaa
open Go Go.Proofs Go.RowKit Go.Shelf

set_option maxRecDepth 100000 in
set_option maxHeartbeats 4000000 in
theorem beq_any (w : World) (t1 : Option Addr) (l1 g1 : Nat) (d1 : List Int) (t2 : Option Addr) (l2 g2 : Nat) (d2 : List Int) (h1 : BAt w t1 l1 d1) (h2 : BAt w t2 l2 d2) : Calls Try.prog 57 #[.slice t1 l1 g1, .slice t2 l2 g2] w fun e w' => e = .returned (.bool (decide (strOfNums d1 = strOfNums d2))) ∧ w' = w := by
  have C1 := Hid.mk (conv_bytes w t1 l1 g1 d1 h1)
  have C2 := Hid.mk (conv_bytes w t2 l2 g2 d2 h2)
  generalize strOfNums d1 = S1 at *
  generalize strOfNums d2 = S2 at *
  clear h1 h2
  have HQ := Hid.mk (str_eq S1 S2)
  go_enter Try.func57, Try.ntmps57
  go_wp2_with (first | (rw [C1.out]; simp only [Result.andThen_ok]) | (rw [C2.out]; simp only [Result.andThen_ok]))
  go_ret
  exact ⟨by rw [← HQ.out]; rfl, rfl⟩
set_option maxRecDepth 100000 in
set_option maxHeartbeats 4000000 in
theorem entEq_any (w : World) (ao : Option Addr) (n cc : Nat) (bo : Option Addr) (m cd : Nat) (E E2 : Nat → EnV) (hE : EnAt w ao n E) (hE2 : EnAt w bo m E2) (hn : n ≤ 9223372036854775807) : Calls Try.prog 48 #[.slice ao n cc, .slice bo m cd] w fun e w' => e = .returned (.bool (decide (n = m) && rowB n (fun k => sameE (E k) (E2 k)))) ∧ Below w.heap.size w w' := by
  by_cases hnm : n = m
  · subst hnm
    have HE := Hid.mk hE
    have HE2 := Hid.mk hE2
    have HL := Hid.mk hn
    clear hE hE2 hn
    go_enter Try.func48, Try.ntmps48
    go_wp2
    go_loopw [13] (fun kv wr => ∃ k q : Nat, kv = .int .i64 k ∧ wr = w.drewN q ∧ Hid (k ≤ n ∧ ∀ j, j < k → sameE (E j) (E2 j) = true)) (fun kv _ => n - (Go.RowKit.intOf kv).toNat)
    case atStart => exact ⟨0, 0, rfl, rfl, Hid.mk ⟨Nat.zero_le _, fun j hj => by omega⟩⟩
    case round =>
      obtain ⟨k, q, rfl, rfl, H2⟩ := hrel
      by_cases hl2 : (k : Int) < (n : Int)
      · have hk2 : k < n := by omega
        obtain ⟨e1, o1, rfl, he1, hc1⟩ := HE.out (by omega)
        obtain ⟨z0, z1⟩ := hc1 k hk2
        obtain ⟨e2, o2, rfl, he2, hc2⟩ := HE2.out (by omega)
        obtain ⟨q0, q1⟩ := hc2 k hk2
        have HK2 := Hid.mk hk2
        have hw5 : IntKind.i64.wrap ((k : Int) + 1) = ((k + 1 : Nat) : Int) := by have := HL.out; rw [IntKind.wrap_i64]; omega
        clear hk2 hc1 hc2 he1 he2
        generalize hE1 : E k = v1 at *
        generalize hE2 : E2 k = v2 at *
        have HE1 := Hid.mk hE1
        have HE2' := Hid.mk hE2
        clear hE1 hE2
        obtain ⟨p1, s1⟩ := v1
        obtain ⟨p2, s2⟩ := v2
        dsimp only at z0 z1 q0 q1
        cases hq : eqE p1 s1 p2 s2 with
        | false =>
          have HF : Hid (rowB n (fun k => sameE (E k) (E2 k)) = false) := Hid.mk (rowB_no (n := n) (j := k) HK2.out (by show sameE (E k) (E2 k) = false; rw [HE1.out, HE2'.out, ← eqE_same]; exact hq))
          go_upto_region 6 with fail
          refine wp_region_quiet_lit (by kernel_rfl) (by kernel_rfl) ?_
          iterate 8 (go_big_quiet_step (fail))
          refine quietL_known (.bool (!eqE p1 s1 p2 s2)) (by kernel_rfl) (fun w _ => by exact exec_neq (i := p1) (s := s1) (j := p2) (t := s2) rfl (by kernel_rfl) (by kernel_rfl)) ?_
          simp only [Act.put, List.setIfInBounds_toArray, List.set_cons_zero, List.set_cons_succ]
          rw [hq]
          refine wpQuiet_nil ?_
          intro _ hw'
          obtain ⟨nq, hw''⟩ := hw'
          subst hw''
          go_wp2
          go_ret
          exact ⟨by rw [HF.out]; simp, blw_drewN (blw_drewN (Below.refl _ w) _) _⟩
        | true =>
          have HT : Hid (sameE (E k) (E2 k) = true) := Hid.mk (by rw [HE1.out, HE2'.out, ← eqE_same]; exact hq)
          go_upto_region 6 with fail
          refine wp_region_quiet_lit (by kernel_rfl) (by kernel_rfl) ?_
          iterate 8 (go_big_quiet_step (fail))
          refine quietL_known (.bool (!eqE p1 s1 p2 s2)) (by kernel_rfl) (fun w _ => by exact exec_neq (i := p1) (s := s1) (j := p2) (t := s2) rfl (by kernel_rfl) (by kernel_rfl)) ?_
          simp only [Act.put, List.setIfInBounds_toArray, List.set_cons_zero, List.set_cons_succ]
          rw [hq]
          refine wpQuiet_nil ?_
          intro _ hw'
          obtain ⟨nq, hw''⟩ := hw'
          subst hw''
          go_wp2
          go_roundw
          case rel => exact ⟨k + 1, q + nq, by go_num, by simp, Hid.mk ⟨HK2.out, fun j hj => by
            rcases Nat.lt_or_ge j k with h | h
            · exact H2.out.2 j h
            · obtain rfl : j = k := by omega
              exact HT.out⟩⟩
          case measure => have := HK2.out; simp [Go.RowKit.intOf]; omega
      · have HS : Hid (rowB n (fun j => sameE (E j) (E2 j)) = true) := Hid.mk (rowB_yes (fun j hj => H2.out.2 j (by omega)))
        go_wp2
        go_ret
        exact ⟨by rw [HS.out]; simp, blw_drewN (Below.refl _ w) _⟩
  · have h1 : ¬ (n : Int) = (m : Int) := by omega
    have h2 : ((n : Int) == (m : Int)) = false := by simpa using h1
    go_enter Try.func48, Try.ntmps48
    go_wp2
    go_ret
    exact ⟨by rw [decide_eq_false hnm]; rfl, Below.refl _ _⟩
set_option maxRecDepth 100000 in
set_option maxHeartbeats 4000000 in
theorem part_any (w : World) (x y : PaV) (h1 : BAt w x.ao x.m x.xs) (h2 : BAt w y.ao y.m y.xs) : Calls Try.prog 50 #[.agg #[.int .i64 x.at', .slice x.ao x.m x.cc], .agg #[.int .i64 y.at', .slice y.ao y.m y.cc]] w fun e w' => e = .returned (.bool (sameP x y)) ∧ Below w.heap.size w w' := by
  obtain ⟨p1, t1, l1, g1, d1⟩ := x
  obtain ⟨p2, t2, l2, g2, d2⟩ := y
  dsimp only at h1 h2 ⊢
  by_cases hp : p1 = p2
  · have HD : Hid (sameP ⟨p1, t1, l1, g1, d1⟩ ⟨p2, t2, l2, g2, d2⟩ = decide (strOfNums d1 = strOfNums d2)) := Hid.mk (by unfold sameP; dsimp only; rw [decide_eq_true hp]; simp)
    rw [HD.out]
    subst hp
    go_enter Try.func50, Try.ntmps50
    go_upto_region 1 with fail
    obtain ⟨X, hX⟩ : ∃ X, X = ((w.alloc (.cells #[.int .i64 p1, .slice t1 l1 g1] 44)).alloc (.cells #[.int .i64 p1, .slice t2 l2 g2] 44)) := ⟨_, rfl⟩
    rw [← hX]
    have gX : X.heap[w.heap.size]? = some (.cells #[.int .i64 p1, .slice t1 l1 g1] 44 (0, 0)) := by rw [hX]; exact two_old w _ _
    have gY : X.heap[w.heap.size + 1]? = some (.cells #[.int .i64 p1, .slice t2 l2 g2] 44 (0, 0)) := by rw [hX]; exact two_new w _ _
    have BX : Hid (Below w.heap.size w X) := Hid.mk (by rw [hX]; exact ((Below.refl _ w).alloc (Nat.le_refl _) _).alloc (by simp) _)
    clear hX
    have x0 := blk_cell gX 0
    have x1 := blk_cell gX 1
    have y0 := blk_cell gY 0
    have y1 := blk_cell gY 1
    simp at x0 x1 y0 y1
    clear gX gY
    have H1 := Hid.mk (h1.only (Only.of_new (fun _ => False) BX.out) (fun _ _ _ h => h))
    have H2 := Hid.mk (h2.only (Only.of_new (fun _ => False) BX.out) (fun _ _ _ h => h))
    clear h1 h2 HD
    go_wp2_with (go_at_call 57; refine (beq_any _ _ _ _ _ _ _ _ _ H1.out H2.out).mono ?_; rintro e W ⟨rfl, rfl⟩)
    go_ret
    exact ⟨rfl, BX.out⟩
  · have HD : Hid (sameP ⟨p1, t1, l1, g1, d1⟩ ⟨p2, t2, l2, g2, d2⟩ = false) := Hid.mk (by unfold sameP; dsimp only; rw [decide_eq_false hp]; simp)
    rw [HD.out]
    have hp2 : (p1 == p2) = false := by simpa using hp
    go_enter Try.func50, Try.ntmps50
    go_upto_region 1 with fail
    obtain ⟨X, hX⟩ : ∃ X, X = ((w.alloc (.cells #[.int .i64 p1, .slice t1 l1 g1] 44)).alloc (.cells #[.int .i64 p2, .slice t2 l2 g2] 44)) := ⟨_, rfl⟩
    rw [← hX]
    have gX : X.heap[w.heap.size]? = some (.cells #[.int .i64 p1, .slice t1 l1 g1] 44 (0, 0)) := by rw [hX]; exact two_old w _ _
    have gY : X.heap[w.heap.size + 1]? = some (.cells #[.int .i64 p2, .slice t2 l2 g2] 44 (0, 0)) := by rw [hX]; exact two_new w _ _
    have BX : Hid (Below w.heap.size w X) := Hid.mk (by rw [hX]; exact ((Below.refl _ w).alloc (Nat.le_refl _) _).alloc (by simp) _)
    clear hX
    have x0 := blk_cell gX 0
    have x1 := blk_cell gX 1
    have y0 := blk_cell gY 0
    have y1 := blk_cell gY 1
    simp at x0 x1 y0 y1
    clear gX gY
    clear h1 h2 HD
    go_wp2_with fail
    go_ret
    exact ⟨rfl, BX.out⟩
set_option maxRecDepth 100000 in
set_option maxHeartbeats 4000000 in
theorem parts_any (w : World) (ao : Option Addr) (n cc : Nat) (bo : Option Addr) (m cd : Nat) (P P2 : Nat → PaV) (hE : PaAt w ao n P) (hE2 : PaAt w bo m P2) (hn : n ≤ 9223372036854775807) : Calls Try.prog 49 #[.slice ao n cc, .slice bo m cd, .func (.func 50) #[] #[]] w fun e w' => e = .returned (.bool (decide (n = m) && rowB n (fun k => sameP (P k) (P2 k)))) ∧ Below w.heap.size w w' := by
  by_cases hnm : n = m
  · subst hnm
    have HE := Hid.mk hE
    have HE2 := Hid.mk hE2
    have HL := Hid.mk hn
    clear hE hE2 hn
    go_enter Try.func49, Try.ntmps49
    go_wp2
    go_loopw [17] (fun kv wr => ∃ k : Nat, kv = .int .i64 k ∧ Hid (Below w.heap.size w wr ∧ k ≤ n ∧ ∀ j, j < k → sameP (P j) (P2 j) = true)) (fun kv _ => n - (Go.RowKit.intOf kv).toNat)
    case atStart => exact ⟨0, rfl, Hid.mk ⟨Below.refl _ _, Nat.zero_le _, fun j hj => by omega⟩⟩
    case round =>
      obtain ⟨k, rfl, HK⟩ := hrel
      by_cases hl2 : (k : Int) < (n : Int)
      · have hk2 : k < n := by omega
        obtain ⟨e1, o1, rfl, he1, hc1⟩ := (HE.out.blw HK.out.1) (by omega)
        obtain ⟨⟨z0, z1⟩, zb, -⟩ := hc1 k hk2
        obtain ⟨e2, o2, rfl, he2, hc2⟩ := (HE2.out.blw HK.out.1) (by omega)
        obtain ⟨⟨q0, q1⟩, qb, -⟩ := hc2 k hk2
        have HK2 := Hid.mk hk2
        have hw5 : IntKind.i64.wrap ((k : Int) + 1) = ((k + 1 : Nat) : Int) := by have := HL.out; rw [IntKind.wrap_i64]; omega
        clear hk2 hc1 hc2 he1
        generalize hE1 : P k = v1 at *
        generalize hE2 : P2 k = v2 at *
        have HE1 := Hid.mk hE1
        have HE3 := Hid.mk hE2
        clear hE1 hE2
        obtain ⟨p1, t1, l1, g1, d1⟩ := v1
        obtain ⟨p2, t2, l2, g2, d2⟩ := v2
        dsimp only at z0 z1 q0 q1 zb qb
        have he3 : e2 < (wr.alloc (.cells #[.int .i64 p1, .slice t1 l1 g1] 44)).heap.size := by simp; omega
        go_upto_region 7 with fail
        obtain ⟨X, hX⟩ : ∃ X, X = ((wr.alloc (.cells #[.int .i64 p1, .slice t1 l1 g1] 44)).alloc (.cells #[.int .i64 p2, .slice t2 l2 g2] 44)) := ⟨_, rfl⟩
        rw [← hX]
        have gX : X.heap[wr.heap.size]? = some (.cells #[.int .i64 p1, .slice t1 l1 g1] 44 (0, 0)) := by rw [hX]; exact two_old wr _ _
        have gY : X.heap[wr.heap.size + 1]? = some (.cells #[.int .i64 p2, .slice t2 l2 g2] 44 (0, 0)) := by rw [hX]; exact two_new wr _ _
        have BX : Hid (Below wr.heap.size wr X) := Hid.mk (by rw [hX]; exact ((Below.refl _ wr).alloc (Nat.le_refl _) _).alloc (by simp) _)
        have BW : Hid (Below w.heap.size w X) := Hid.mk (HK.out.1.trans (BX.out.mono HK.out.1.size))
        clear hX
        have H1 := Hid.mk (zb.only (Only.of_new (fun _ => False) BX.out) (fun _ _ _ h => h))
        have H2 := Hid.mk (qb.only (Only.of_new (fun _ => False) BX.out) (fun _ _ _ h => h))
        clear zb qb z0 z1 q0 q1 he3 he2
        have x0 := blk_cell gX 0
        have y0 := blk_cell gY 0
        have x1 := blk_cell gX 1
        have y1 := blk_cell gY 1
        simp at x0 y0 x1 y1
        generalize wr.heap.size = g at *
        clear gX gY
        cases hs : sameP ⟨p1, t1, l1, g1, d1⟩ ⟨p2, t2, l2, g2, d2⟩ with
        | false =>
          have HF : Hid (rowB n (fun k => sameP (P k) (P2 k)) = false) := Hid.mk (rowB_no (n := n) (j := k) HK2.out (by show sameP (P k) (P2 k) = false; rw [HE1.out, HE3.out]; exact hs))
          have HS := Hid.mk hs
          clear hs
          go_wp2_with (go_at_call 50; refine (part_any _ ⟨p1, t1, l1, g1, d1⟩ ⟨p2, t2, l2, g2, d2⟩ H1.out H2.out).mono ?_; rintro e W ⟨rfl, hB⟩; have BB := Hid.mk hB; rw [HS.out]; clear hB)
          go_ret
          exact ⟨by rw [HF.out]; simp, BW.out.trans (BB.out.mono BW.out.size)⟩
        | true =>
          have HT : Hid (sameP (P k) (P2 k) = true) := Hid.mk (by rw [HE1.out, HE3.out]; exact hs)
          have HS := Hid.mk hs
          clear hs
          go_wp2_with (go_at_call 50; refine (part_any _ ⟨p1, t1, l1, g1, d1⟩ ⟨p2, t2, l2, g2, d2⟩ H1.out H2.out).mono ?_; rintro e W ⟨rfl, hB⟩; have BB := Hid.mk hB; rw [HS.out]; clear hB)
          go_roundw
          case rel => exact ⟨k + 1, by go_num, Hid.mk ⟨BW.out.trans (BB.out.mono BW.out.size), HK2.out, fun j hj => by
            rcases Nat.lt_or_ge j k with h | h
            · exact HK.out.2.2 j h
            · obtain rfl : j = k := by omega
              exact HT.out⟩⟩
          case measure => have := HK2.out; simp [Go.RowKit.intOf]; omega
      · have HS : Hid (rowB n (fun j => sameP (P j) (P2 j)) = true) := Hid.mk (rowB_yes (fun j hj => HK.out.2.2 j (by have := HK.out.2.1; omega)))
        go_wp2
        go_ret
        exact ⟨by rw [HS.out]; simp, HK.out.1⟩
  · have h1 : ¬ (n : Int) = (m : Int) := by omega
    have h2 : ((n : Int) == (m : Int)) = false := by simpa using h1
    go_enter Try.func49, Try.ntmps49
    go_wp2
    go_ret
    exact ⟨by rw [decide_eq_false hnm]; rfl, Below.refl _ _⟩
end Go.Proofs.Ytbahbhaoimabdaa
