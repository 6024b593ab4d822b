/-
  The program's Same of nodes.
-/
import Derived.Test.YtbahbhaoimabdaaWkSame
namespace Go.Proofs.Ytbahbhaoimabdaa
open Go Go.Proofs Go.RowKit Go.Shelf

/-- A node as a value. -/
def NoV.val (x : NoV) : Value := .agg #[.int .i64 x.ino, .int .i64 x.kind, .int .i64 x.links, .int .i64 x.size, .slice x.bo x.bn x.bc, .slice x.so x.sn x.sc]
theorem sameN_four (x y : NoV) : sameN x y = (decide (x.ino = y.ino) && decide (x.kind = y.kind) && decide (x.links = y.links) && decide (x.size = y.size) && ((decide (x.sn = y.sn) && rowB x.sn (fun k => sameE (x.E k) (y.E k))) && (decide (x.bn = y.bn) && rowB x.bn (fun k => sameP (x.P k) (y.P k))))) := by
  simp only [sameN, sameH]
  ac_rfl
theorem cell_ltA {w : World} {a : Addr} {v : Value} (h : w.cell? a = some v) : a.block < w.heap.size := by
  rcases Nat.lt_or_ge a.block w.heap.size with h' | h'
  · exact h'
  · simp [World.cell?, Array.getElem?_eq_none h'] at h
set_option maxRecDepth 100000 in
set_option maxHeartbeats 4000000 in
theorem node_any (w : World) (x y : NoV) (p1 : PaAt w x.bo x.bn x.P) (e1 : EnAt w x.so x.sn x.E) (p2 : PaAt w y.bo y.bn y.P) (e2 : EnAt w y.so y.sn y.E) (hx : x.wf) : Calls Try.prog 31 #[x.val, y.val] w fun e w' => e = .returned (.bool (sameN x y)) ∧ Below w.heap.size w w' := by
  have H4 := Hid.mk (sameN_four x y)
  obtain ⟨a0, a1, a2, a3, a4, n4, c4, P, a5, n5, c5, E⟩ := x
  obtain ⟨b0, b1, b2, b3, b4, m4, d4, P2, b5, m5, d5, E2⟩ := y
  unfold NoV.val
  have hb : n4 ≤ 9223372036854775807 := hx.1
  have hs : n5 ≤ 9223372036854775807 := hx.2.1
  dsimp only at p1 e1 p2 e2 H4 ⊢
  clear hx
  by_cases h0 : a0 = b0
  · by_cases h1 : a1 = b1
    · by_cases h2 : a2 = b2
      · by_cases h3 : a3 = b3
        · have HT : Hid (sameN ⟨a0, a1, a2, a3, a4, n4, c4, P, a5, n5, c5, E⟩ ⟨b0, b1, b2, b3, b4, m4, d4, P2, b5, m5, d5, E2⟩ = ((decide (n5 = m5) && rowB n5 (fun k => sameE (E k) (E2 k))) && (decide (n4 = m4) && rowB n4 (fun k => sameP (P k) (P2 k))))) := Hid.mk (by rw [H4.out, decide_eq_true h0, decide_eq_true h1, decide_eq_true h2, decide_eq_true h3]; simp)
          rw [HT.out]
          obtain ⟨r1, hr1⟩ : ∃ r1, r1 = (decide (n5 = m5) && rowB n5 (fun k => sameE (E k) (E2 k))) := ⟨_, rfl⟩
          rw [← hr1]
          have HR1 := Hid.mk hr1
          clear hr1
          subst h0 h1 h2 h3
          go_enter Try.func31, Try.ntmps31
          go_upto_region 1 with fail
          obtain ⟨X, hX⟩ : ∃ X, X = ((w.alloc (.cells #[.int .i64 a0, .int .i64 a1, .int .i64 a2, .int .i64 a3, .slice a4 n4 c4, .slice a5 n5 c5] 39)).alloc (.cells #[.int .i64 a0, .int .i64 a1, .int .i64 a2, .int .i64 a3, .slice b4 m4 d4, .slice b5 m5 d5] 39)) := ⟨_, rfl⟩
          rw [← hX]
          have gX : X.heap[w.heap.size]? = some (.cells #[.int .i64 a0, .int .i64 a1, .int .i64 a2, .int .i64 a3, .slice a4 n4 c4, .slice a5 n5 c5] 39 (0, 0)) := by rw [hX]; exact two_old w _ _
          have gY : X.heap[w.heap.size + 1]? = some (.cells #[.int .i64 a0, .int .i64 a1, .int .i64 a2, .int .i64 a3, .slice b4 m4 d4, .slice b5 m5 d5] 39 (0, 0)) := by rw [hX]; exact two_new w _ _
          have BX : Hid (Below w.heap.size w X) := Hid.mk (by rw [hX]; exact ((Below.refl _ w).alloc (Nat.le_refl _) _).alloc (by simp) _)
          clear hX
          have x0 := blk_cell gX 0
          have y0 := blk_cell gY 0
          have x1 := blk_cell gX 1
          have y1 := blk_cell gY 1
          have x2 := blk_cell gX 2
          have y2 := blk_cell gY 2
          have x3 := blk_cell gX 3
          have y3 := blk_cell gY 3
          have x4 := blk_cell gX 4
          have y4 := blk_cell gY 4
          have x5 := blk_cell gX 5
          have y5 := blk_cell gY 5
          simp at x0 y0 x1 y1 x2 y2 x3 y3 x4 y4 x5 y5
          clear gX gY
          have P1 := Hid.mk (p1.blw BX.out)
          have P3 := Hid.mk (p2.blw BX.out)
          have E1 := Hid.mk (e1.blw BX.out)
          have E3 := Hid.mk (e2.blw BX.out)
          have HB := Hid.mk hb
          have HS := Hid.mk hs
          clear p1 p2 e1 e2 hb hs H4 HT
          cases r1 with
          | false =>
            go_wp2_with (go_at_call 48; refine (entEq_any _ _ _ _ _ _ _ _ _ E1.out E3.out HS.out).mono ?_; rintro e W ⟨rfl, hB⟩; have BB := Hid.mk hB; rw [← HR1.out]; clear hB)
            go_ret
            exact ⟨rfl, BX.out.trans (BB.out.mono BX.out.size)⟩
          | true =>
            go_wp2_with (first
              | (go_at_call 48; refine (entEq_any _ _ _ _ _ _ _ _ _ E1.out E3.out HS.out).mono ?_; rintro e W ⟨rfl, hB⟩; have BB := Hid.mk hB; rw [← HR1.out]; have zx4 := (World.cell?_of_block (hB.block _ (cell_ltA x4))).trans x4; have zy4 := (World.cell?_of_block (hB.block _ (cell_ltA y4))).trans y4; clear hB)
              | (go_at_call 49; refine (parts_any _ _ _ _ _ _ _ _ _ (P1.out.blw BB.out) (P3.out.blw BB.out) HB.out).mono ?_; rintro e W2 ⟨rfl, hB2⟩; have BC := Hid.mk hB2; clear hB2))
            go_ret
            exact ⟨rfl, (BX.out.trans (BB.out.mono BX.out.size)).trans (BC.out.mono (BX.out.trans (BB.out.mono BX.out.size)).size)⟩
        · have HT : Hid (sameN ⟨a0, a1, a2, a3, a4, n4, c4, P, a5, n5, c5, E⟩ ⟨b0, b1, b2, b3, b4, m4, d4, P2, b5, m5, d5, E2⟩ = false) := Hid.mk (by rw [H4.out, decide_eq_false h3]; simp)
          rw [HT.out]
          have i1 : (a3 == b3) = false := by simpa using h3
          subst h0 h1 h2
          go_enter Try.func31, Try.ntmps31
          go_upto_region 1 with fail
          obtain ⟨X, hX⟩ : ∃ X, X = ((w.alloc (.cells #[.int .i64 a0, .int .i64 a1, .int .i64 a2, .int .i64 a3, .slice a4 n4 c4, .slice a5 n5 c5] 39)).alloc (.cells #[.int .i64 a0, .int .i64 a1, .int .i64 a2, .int .i64 b3, .slice b4 m4 d4, .slice b5 m5 d5] 39)) := ⟨_, rfl⟩
          rw [← hX]
          have gX : X.heap[w.heap.size]? = some (.cells #[.int .i64 a0, .int .i64 a1, .int .i64 a2, .int .i64 a3, .slice a4 n4 c4, .slice a5 n5 c5] 39 (0, 0)) := by rw [hX]; exact two_old w _ _
          have gY : X.heap[w.heap.size + 1]? = some (.cells #[.int .i64 a0, .int .i64 a1, .int .i64 a2, .int .i64 b3, .slice b4 m4 d4, .slice b5 m5 d5] 39 (0, 0)) := by rw [hX]; exact two_new w _ _
          have BX : Hid (Below w.heap.size w X) := Hid.mk (by rw [hX]; exact ((Below.refl _ w).alloc (Nat.le_refl _) _).alloc (by simp) _)
          clear hX
          have x0 := blk_cell gX 0
          have y0 := blk_cell gY 0
          have x1 := blk_cell gX 1
          have y1 := blk_cell gY 1
          have x2 := blk_cell gX 2
          have y2 := blk_cell gY 2
          have x3 := blk_cell gX 3
          have y3 := blk_cell gY 3
          have x4 := blk_cell gX 4
          have y4 := blk_cell gY 4
          have x5 := blk_cell gX 5
          have y5 := blk_cell gY 5
          simp at x0 y0 x1 y1 x2 y2 x3 y3 x4 y4 x5 y5
          clear gX gY
          clear p1 p2 e1 e2 hb hs H4 HT
          go_wp2_with fail
          go_ret
          exact ⟨rfl, BX.out⟩
      · have HT : Hid (sameN ⟨a0, a1, a2, a3, a4, n4, c4, P, a5, n5, c5, E⟩ ⟨b0, b1, b2, b3, b4, m4, d4, P2, b5, m5, d5, E2⟩ = false) := Hid.mk (by rw [H4.out, decide_eq_false h2]; simp)
        rw [HT.out]
        have i1 : (a2 == b2) = false := by simpa using h2
        subst h0 h1
        go_enter Try.func31, Try.ntmps31
        go_upto_region 1 with fail
        obtain ⟨X, hX⟩ : ∃ X, X = ((w.alloc (.cells #[.int .i64 a0, .int .i64 a1, .int .i64 a2, .int .i64 a3, .slice a4 n4 c4, .slice a5 n5 c5] 39)).alloc (.cells #[.int .i64 a0, .int .i64 a1, .int .i64 b2, .int .i64 b3, .slice b4 m4 d4, .slice b5 m5 d5] 39)) := ⟨_, rfl⟩
        rw [← hX]
        have gX : X.heap[w.heap.size]? = some (.cells #[.int .i64 a0, .int .i64 a1, .int .i64 a2, .int .i64 a3, .slice a4 n4 c4, .slice a5 n5 c5] 39 (0, 0)) := by rw [hX]; exact two_old w _ _
        have gY : X.heap[w.heap.size + 1]? = some (.cells #[.int .i64 a0, .int .i64 a1, .int .i64 b2, .int .i64 b3, .slice b4 m4 d4, .slice b5 m5 d5] 39 (0, 0)) := by rw [hX]; exact two_new w _ _
        have BX : Hid (Below w.heap.size w X) := Hid.mk (by rw [hX]; exact ((Below.refl _ w).alloc (Nat.le_refl _) _).alloc (by simp) _)
        clear hX
        have x0 := blk_cell gX 0
        have y0 := blk_cell gY 0
        have x1 := blk_cell gX 1
        have y1 := blk_cell gY 1
        have x2 := blk_cell gX 2
        have y2 := blk_cell gY 2
        have x3 := blk_cell gX 3
        have y3 := blk_cell gY 3
        have x4 := blk_cell gX 4
        have y4 := blk_cell gY 4
        have x5 := blk_cell gX 5
        have y5 := blk_cell gY 5
        simp at x0 y0 x1 y1 x2 y2 x3 y3 x4 y4 x5 y5
        clear gX gY
        clear p1 p2 e1 e2 hb hs H4 HT
        go_wp2_with fail
        go_ret
        exact ⟨rfl, BX.out⟩
    · have HT : Hid (sameN ⟨a0, a1, a2, a3, a4, n4, c4, P, a5, n5, c5, E⟩ ⟨b0, b1, b2, b3, b4, m4, d4, P2, b5, m5, d5, E2⟩ = false) := Hid.mk (by rw [H4.out, decide_eq_false h1]; simp)
      rw [HT.out]
      have i1 : (a1 == b1) = false := by simpa using h1
      subst h0
      go_enter Try.func31, Try.ntmps31
      go_upto_region 1 with fail
      obtain ⟨X, hX⟩ : ∃ X, X = ((w.alloc (.cells #[.int .i64 a0, .int .i64 a1, .int .i64 a2, .int .i64 a3, .slice a4 n4 c4, .slice a5 n5 c5] 39)).alloc (.cells #[.int .i64 a0, .int .i64 b1, .int .i64 b2, .int .i64 b3, .slice b4 m4 d4, .slice b5 m5 d5] 39)) := ⟨_, rfl⟩
      rw [← hX]
      have gX : X.heap[w.heap.size]? = some (.cells #[.int .i64 a0, .int .i64 a1, .int .i64 a2, .int .i64 a3, .slice a4 n4 c4, .slice a5 n5 c5] 39 (0, 0)) := by rw [hX]; exact two_old w _ _
      have gY : X.heap[w.heap.size + 1]? = some (.cells #[.int .i64 a0, .int .i64 b1, .int .i64 b2, .int .i64 b3, .slice b4 m4 d4, .slice b5 m5 d5] 39 (0, 0)) := by rw [hX]; exact two_new w _ _
      have BX : Hid (Below w.heap.size w X) := Hid.mk (by rw [hX]; exact ((Below.refl _ w).alloc (Nat.le_refl _) _).alloc (by simp) _)
      clear hX
      have x0 := blk_cell gX 0
      have y0 := blk_cell gY 0
      have x1 := blk_cell gX 1
      have y1 := blk_cell gY 1
      have x2 := blk_cell gX 2
      have y2 := blk_cell gY 2
      have x3 := blk_cell gX 3
      have y3 := blk_cell gY 3
      have x4 := blk_cell gX 4
      have y4 := blk_cell gY 4
      have x5 := blk_cell gX 5
      have y5 := blk_cell gY 5
      simp at x0 y0 x1 y1 x2 y2 x3 y3 x4 y4 x5 y5
      clear gX gY
      clear p1 p2 e1 e2 hb hs H4 HT
      go_wp2_with fail
      go_ret
      exact ⟨rfl, BX.out⟩
  · have HT : Hid (sameN ⟨a0, a1, a2, a3, a4, n4, c4, P, a5, n5, c5, E⟩ ⟨b0, b1, b2, b3, b4, m4, d4, P2, b5, m5, d5, E2⟩ = false) := Hid.mk (by rw [H4.out, decide_eq_false h0]; simp)
    rw [HT.out]
    have i1 : (a0 == b0) = false := by simpa using h0
    go_enter Try.func31, Try.ntmps31
    go_upto_region 1 with fail
    obtain ⟨X, hX⟩ : ∃ X, X = ((w.alloc (.cells #[.int .i64 a0, .int .i64 a1, .int .i64 a2, .int .i64 a3, .slice a4 n4 c4, .slice a5 n5 c5] 39)).alloc (.cells #[.int .i64 b0, .int .i64 b1, .int .i64 b2, .int .i64 b3, .slice b4 m4 d4, .slice b5 m5 d5] 39)) := ⟨_, rfl⟩
    rw [← hX]
    have gX : X.heap[w.heap.size]? = some (.cells #[.int .i64 a0, .int .i64 a1, .int .i64 a2, .int .i64 a3, .slice a4 n4 c4, .slice a5 n5 c5] 39 (0, 0)) := by rw [hX]; exact two_old w _ _
    have gY : X.heap[w.heap.size + 1]? = some (.cells #[.int .i64 b0, .int .i64 b1, .int .i64 b2, .int .i64 b3, .slice b4 m4 d4, .slice b5 m5 d5] 39 (0, 0)) := by rw [hX]; exact two_new w _ _
    have BX : Hid (Below w.heap.size w X) := Hid.mk (by rw [hX]; exact ((Below.refl _ w).alloc (Nat.le_refl _) _).alloc (by simp) _)
    clear hX
    have x0 := blk_cell gX 0
    have y0 := blk_cell gY 0
    have x1 := blk_cell gX 1
    have y1 := blk_cell gY 1
    have x2 := blk_cell gX 2
    have y2 := blk_cell gY 2
    have x3 := blk_cell gX 3
    have y3 := blk_cell gY 3
    have x4 := blk_cell gX 4
    have y4 := blk_cell gY 4
    have x5 := blk_cell gX 5
    have y5 := blk_cell gY 5
    simp at x0 y0 x1 y1 x2 y2 x3 y3 x4 y4 x5 y5
    clear gX gY
    clear p1 p2 e1 e2 hb hs H4 HT
    go_wp2_with fail
    go_ret
    exact ⟨rfl, BX.out⟩
theorem node_any2 (w : World) (x y : NoV) (p1 : PaAt w x.bo x.bn x.P) (e1 : EnAt w x.so x.sn x.E) (p2 : PaAt w y.bo y.bn y.P) (e2 : EnAt w y.so y.sn y.E) (hx : x.wf) : Calls Try.prog 31 #[.agg #[.int .i64 x.ino, .int .i64 x.kind, .int .i64 x.links, .int .i64 x.size, .slice x.bo x.bn x.bc, .slice x.so x.sn x.sc], .agg #[.int .i64 y.ino, .int .i64 y.kind, .int .i64 y.links, .int .i64 y.size, .slice y.bo y.bn y.bc, .slice y.so y.sn y.sc]] w fun e w' => e = .returned (.bool (sameN x y)) ∧ Below w.heap.size w w' := node_any w x y p1 e1 p2 e2 hx
set_option maxRecDepth 100000 in
set_option maxHeartbeats 4000000 in
theorem nodes_any (w : World) (ao : Option Addr) (n cc : Nat) (bo : Option Addr) (m cd : Nat) (N M : Nat → NoV) (hE : NoAt w ao n N) (hE2 : NoAt w bo m M) (hn : n ≤ 9223372036854775807) : Calls Try.prog 30 #[.slice ao n cc, .slice bo m cd, .func (.func 31) #[] #[]] w fun e w' => e = .returned (.bool (sameL n N m M)) ∧ Below w.heap.size w w' := by
  by_cases hnm : n = m
  · subst hnm
    have HE := Hid.mk hE
    have HE2 := Hid.mk hE2
    have HL := Hid.mk hn
    clear hE hE2 hn
    go_enter Try.func30, Try.ntmps30
    go_wp2
    go_loopw [17] (fun kv wr => ∃ k : Nat, kv = .int .i64 k ∧ Hid (Below w.heap.size w wr ∧ k ≤ n ∧ ∀ j, j < k → sameN (N j) (M j) = true)) (fun kv _ => n - (Go.RowKit.intOf kv).toNat)
    case atStart => exact ⟨0, rfl, Hid.mk ⟨Below.refl _ _, Nat.zero_le _, fun j hj => by omega⟩⟩
    case round =>
      obtain ⟨k, rfl, HK⟩ := hrel
      by_cases hl2 : (k : Int) < (n : Int)
      · have hk2 : k < n := by omega
        obtain ⟨f1, o1, rfl, he1, ⟨z0, z1, z2, z3, z4, z5⟩, hp1, hs1, hw1⟩ := no_at (HE.out.blw HK.out.1) hk2
        obtain ⟨f2, o2, rfl, he2, ⟨q0, q1, q2, q3, q4, q5⟩, hp2, hs2, hw2⟩ := no_at (HE2.out.blw HK.out.1) hk2
        have HK2 := Hid.mk hk2
        have hw5 : IntKind.i64.wrap ((k : Int) + 1) = ((k + 1 : Nat) : Int) := by have := HL.out; rw [IntKind.wrap_i64]; omega
        clear hk2 he1 hw2
        generalize hE1 : N k = v1 at *
        generalize hE2 : M k = v2 at *
        have HE1 := Hid.mk hE1
        have HE3 := Hid.mk hE2
        have HWF := Hid.mk hw1
        clear hE1 hE2 hw1
        obtain ⟨a0, a1, a2, a3, a4, n4, c4, P, a5, n5, c5, E⟩ := v1
        obtain ⟨b0, b1, b2, b3, b4, m4, d4, P2, b5, m5, d5, E2⟩ := v2
        dsimp only at z0 z1 z2 z3 z4 z5 q0 q1 q2 q3 q4 q5 hp1 hs1 hp2 hs2
        have he3 : f2 < (wr.alloc (.cells #[.int .i64 a0, .int .i64 a1, .int .i64 a2, .int .i64 a3, .slice a4 n4 c4, .slice a5 n5 c5] 39)).heap.size := by simp; omega
        go_upto_region 7 with fail
        obtain ⟨X, hX⟩ : ∃ X, X = ((wr.alloc (.cells #[.int .i64 a0, .int .i64 a1, .int .i64 a2, .int .i64 a3, .slice a4 n4 c4, .slice a5 n5 c5] 39)).alloc (.cells #[.int .i64 b0, .int .i64 b1, .int .i64 b2, .int .i64 b3, .slice b4 m4 d4, .slice b5 m5 d5] 39)) := ⟨_, rfl⟩
        rw [← hX]
        have gX : X.heap[wr.heap.size]? = some (.cells #[.int .i64 a0, .int .i64 a1, .int .i64 a2, .int .i64 a3, .slice a4 n4 c4, .slice a5 n5 c5] 39 (0, 0)) := by rw [hX]; exact two_old wr _ _
        have gY : X.heap[wr.heap.size + 1]? = some (.cells #[.int .i64 b0, .int .i64 b1, .int .i64 b2, .int .i64 b3, .slice b4 m4 d4, .slice b5 m5 d5] 39 (0, 0)) := by rw [hX]; exact two_new wr _ _
        have BX : Hid (Below wr.heap.size wr X) := Hid.mk (by rw [hX]; exact ((Below.refl _ wr).alloc (Nat.le_refl _) _).alloc (by simp) _)
        have BW : Hid (Below w.heap.size w X) := Hid.mk (HK.out.1.trans (BX.out.mono HK.out.1.size))
        clear hX
        have P1 := Hid.mk (hp1.blw BX.out)
        have S1 := Hid.mk (hs1.blw BX.out)
        have P3 := Hid.mk (hp2.blw BX.out)
        have S3 := Hid.mk (hs2.blw BX.out)
        clear hp1 hs1 hp2 hs2 z0 z1 z2 z3 z4 z5 q0 q1 q2 q3 q4 q5 he3 he2
        have x0 := blk_cell gX 0
        have y0 := blk_cell gY 0
        have x1 := blk_cell gX 1
        have y1 := blk_cell gY 1
        have x2 := blk_cell gX 2
        have y2 := blk_cell gY 2
        have x3 := blk_cell gX 3
        have y3 := blk_cell gY 3
        have x4 := blk_cell gX 4
        have y4 := blk_cell gY 4
        have x5 := blk_cell gX 5
        have y5 := blk_cell gY 5
        simp at x0 y0 x1 y1 x2 y2 x3 y3 x4 y4 x5 y5
        generalize wr.heap.size = g at *
        clear gX gY
        cases hs : sameN ⟨a0, a1, a2, a3, a4, n4, c4, P, a5, n5, c5, E⟩ ⟨b0, b1, b2, b3, b4, m4, d4, P2, b5, m5, d5, E2⟩ with
        | false =>
          have HF : Hid (rowB n (fun k => sameN (N k) (M k)) = false) := Hid.mk (rowB_no (n := n) (j := k) HK2.out (by show sameN (N k) (M k) = false; rw [HE1.out, HE3.out]; exact hs))
          have HS := Hid.mk hs
          clear hs
          go_wp2_with (go_at_call 31; refine (node_any2 _ ⟨a0, a1, a2, a3, a4, n4, c4, P, a5, n5, c5, E⟩ ⟨b0, b1, b2, b3, b4, m4, d4, P2, b5, m5, d5, E2⟩ P1.out S1.out P3.out S3.out HWF.out).mono ?_; rintro e W ⟨rfl, hB⟩; have BB := Hid.mk hB; rw [HS.out]; clear hB)
          go_ret
          exact ⟨by unfold sameL; rw [HF.out]; simp, BW.out.trans (BB.out.mono BW.out.size)⟩
        | true =>
          have HT : Hid (sameN (N k) (M k) = true) := Hid.mk (by rw [HE1.out, HE3.out]; exact hs)
          have HS := Hid.mk hs
          clear hs
          go_wp2_with (go_at_call 31; refine (node_any2 _ ⟨a0, a1, a2, a3, a4, n4, c4, P, a5, n5, c5, E⟩ ⟨b0, b1, b2, b3, b4, m4, d4, P2, b5, m5, d5, E2⟩ P1.out S1.out P3.out S3.out HWF.out).mono ?_; rintro e W ⟨rfl, hB⟩; have BB := Hid.mk hB; rw [HS.out]; clear hB)
          go_roundw
          case rel => exact ⟨k + 1, by go_num, Hid.mk ⟨BW.out.trans (BB.out.mono BW.out.size), HK2.out, fun j hj => by
            rcases Nat.lt_or_ge j k with h | h
            · exact HK.out.2.2 j h
            · obtain rfl : j = k := by omega
              exact HT.out⟩⟩
          case measure => have := HK2.out; simp [Go.RowKit.intOf]; omega
      · go_wp2
        go_ret
        exact ⟨by rw [sameL_yes (fun j hj => HK.out.2.2 j (by have := HK.out.2.1; omega))]; rfl, HK.out.1⟩
  · have h1 : ¬ (n : Int) = (m : Int) := by omega
    have h2 : ((n : Int) == (m : Int)) = false := by simpa using h1
    go_enter Try.func30, Try.ntmps30
    go_wp2
    go_ret
    exact ⟨by unfold sameL; rw [decide_eq_false hnm]; rfl, Below.refl _ _⟩
set_option maxRecDepth 100000 in
set_option maxHeartbeats 4000000 in
theorem wsame_any (w : World) (ao : Option Addr) (n cc : Nat) (bo : Option Addr) (m cd : Nat) (N M : Nat → NoV) (hE : NoAt w ao n N) (hE2 : NoAt w bo m M) (hn : n ≤ 9223372036854775807) : Calls Try.prog 18 #[.slice ao n cc, .slice bo m cd] w fun e w' => e = .returned (.bool (sameL n N m M)) ∧ Below w.heap.size w w' := by
  have HC := Hid.mk (nodes_any w ao n cc bo m cd N M hE hE2 hn)
  clear hE hE2 hn
  go_enter Try.func18, Try.ntmps18
  go_wp2_with (go_at_call 30; refine HC.out.mono ?_; rintro e W ⟨rfl, hB⟩; have BB := Hid.mk hB; clear hB)
  go_ret
  exact ⟨rfl, BB.out⟩
end Go.Proofs.Ytbahbhaoimabdaa
