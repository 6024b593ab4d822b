/-
  The reference's Same.
-/
import Derived.Test.YtbahbhaoimabdaaWkEq
import Derived.BigQuiet
import Derived.Deep.QuietTactic
namespace Go.Proofs.Ytbahbhaoimabdaa
open Go Go.Proofs Go.RowKit Go.Shelf

theorem no_at {W : World} {ao : Option Addr} {n : Nat} {N : Nat → NoV} (h : NoAt W ao n N) {j : Nat} (hj : j < n) : ∃ b o, ao = some ⟨b, o, none⟩ ∧ b < W.heap.size ∧ (W.cell? ⟨b, o + j * 6, none⟩ = some (.int .i64 (N j).ino) ∧ W.cell? ⟨b, o + j * 6 + 1, none⟩ = some (.int .i64 (N j).kind) ∧ W.cell? ⟨b, o + j * 6 + 2, none⟩ = some (.int .i64 (N j).links) ∧ W.cell? ⟨b, o + j * 6 + 3, none⟩ = some (.int .i64 (N j).size) ∧ W.cell? ⟨b, o + j * 6 + 4, none⟩ = some (.slice (N j).bo (N j).bn (N j).bc) ∧ W.cell? ⟨b, o + j * 6 + 5, none⟩ = some (.slice (N j).so (N j).sn (N j).sc)) ∧ PaAt W (N j).bo (N j).bn (N j).P ∧ EnAt W (N j).so (N j).sn (N j).E ∧ (N j).wf := by
  obtain ⟨b, o, e, hl, hc⟩ := h (by omega)
  exact ⟨b, o, e, hl, hc j hj⟩
theorem sameH_no {x y : NoV} (h : sameH x y = false) : x.ino ≠ y.ino ∨ x.ino = y.ino ∧ (x.kind ≠ y.kind ∨ x.kind = y.kind ∧ (x.links ≠ y.links ∨ x.links = y.links ∧ (x.size ≠ y.size ∨ x.size = y.size ∧ (x.sn ≠ y.sn ∨ x.sn = y.sn ∧ x.bn ≠ y.bn)))) := by
  by_cases h0 : x.ino = y.ino
  · refine .inr ⟨h0, ?_⟩
    by_cases h1 : x.kind = y.kind
    · refine .inr ⟨h1, ?_⟩
      by_cases h2 : x.links = y.links
      · refine .inr ⟨h2, ?_⟩
        by_cases h3 : x.size = y.size
        · refine .inr ⟨h3, ?_⟩
          by_cases h4 : x.sn = y.sn
          · refine .inr ⟨h4, fun h5 => ?_⟩
            simp [sameH, h0, h1, h2, h3, h4, h5] at h
          · exact .inl h4
        · exact .inl h3
      · exact .inl h2
    · exact .inl h1
  · exact .inl h0
theorem sameL_no {n : Nat} {N M : Nat → NoV} {k : Nat} (hk : k < n) (h : sameN (N k) (M k) = false) : sameL n N n M = false := by
  unfold sameL
  rw [rowB_no hk h]
  simp
theorem sameL_yes {n : Nat} {N M : Nat → NoV} (h : ∀ j, j < n → sameN (N j) (M j) = true) : sameL n N n M = true := by
  unfold sameL
  rw [rowB_yes h]
  simp
theorem two_new (W : World) (a b : Obj) : ((W.alloc a).alloc b).heap[W.heap.size + 1]? = some b := by
  have h : (W.alloc a).heap.size = W.heap.size + 1 := by simp
  rw [← h]
  exact blk_new (W.alloc a) b
theorem two_old (W : World) (a b : Obj) : ((W.alloc a).alloc b).heap[W.heap.size]? = some a := by
  have h : (W.alloc a).heap.size = W.heap.size + 1 := by simp
  exact (Below.heap_alloc (W.alloc a) b _ (by rw [h]; omega)).trans (blk_new W a)
theorem wpList_it {P : Program} {w : World} {ops : Array Oper} {l : List Oper} {a : Act} {Q : Exit → Act → World → Prop} (h : wpList P ops Q l a w) : wpList P ops Q l a w := h
theorem wpList_knownS {P : Program} {w : World} {ops : Array Oper} {rest : List Oper} {o : Oper} {a : Act} {Q : Exit → Act → World → Prop} (hw : Region.wanted o (yielded ops a.tmps) = true) (v : Value) (w' : World)
    (hrun : (execOp a.eval o).run P w = .ok (.value v) w') (h : wpList P ops Q rest (a.put o.dst v) w') : wpList P ops Q (o :: rest) a w := by
  refine BigFrame.wpList_want hw fun K hK => ?_
  unfold Oper.wp
  rw [hrun, Oper.upon_value]
  exact hK _ _ h
theorem quietL_known {P : Program} {ops : Array Oper} {C : World → Prop} {Q : Act → Prop} {o : Oper} {rest : List Oper} {a : Act} (v : Value) (hw : Region.wanted o (yielded ops a.tmps) = true) (h : ∀ w, C w → (execOp a.eval o).run P w = .ok (.value v) w) (hk : wpQuiet P ops C Q rest (a.put o.dst v)) : wpQuiet P ops C Q (o :: rest) a :=
  BigFrame.wpQuiet_want hw (fun _ hK => ⟨v, fun w hC => by unfold Oper.quietAt; rw [h w hC]; exact ⟨rfl, rfl⟩, hK _ hk⟩)
theorem blw_drewN {B : Nat} {a w : World} (h : Below B a w) (q : Nat) : Below B a (w.drewN q) := ⟨h.os, h.tape, h.output, h.size, h.block⟩
set_option maxRecDepth 100000 in
set_option maxHeartbeats 4000000 in
theorem rsame_any (w : World) (ao : Option Addr) (n cc : Nat) (bo : Option Addr) (m cd : Nat) (N M : Nat → NoV) (hN : NoAt w ao n N) (hM : NoAt w bo m M) (hn : n ≤ 9223372036854775807) : Calls Try.prog 19 #[.slice ao n cc, .slice bo m cd] w fun e w' => e = .returned (.bool (sameL n N m M)) ∧ Below w.heap.size w w' := by
  by_cases hnm : n = m
  · subst hnm
    have HN := Hid.mk hN
    have HM := Hid.mk hM
    have HL := Hid.mk hn
    clear hN hM hn
    go_enter Try.func19, Try.ntmps19
    go_wp2
    go_loopw [5] (fun kv wr => ∃ k : Nat, kv = .int .i64 k ∧ Hid (Below w.heap.size w wr ∧ k ≤ n ∧ ∀ j, j < k → sameN (N j) (M j) = true)) (fun kv _ => n - (Go.RowKit.intOf kv).toNat)
    case atStart => exact ⟨0, rfl, Hid.mk ⟨Below.refl _ _, Nat.zero_le _, fun j hj => by omega⟩⟩
    case round =>
      obtain ⟨k, rfl, HK⟩ := hrel
      by_cases hkl : (k : Int) < (n : Int)
      · have hk : k < n := by omega
        obtain ⟨ab, o, rfl, hab, ⟨x0, x1, x2, x3, x4, x5⟩, hp, he, hw⟩ := no_at (HN.out.blw HK.out.1) hk
        obtain ⟨bb, q, rfl, hbb, ⟨y0, y1, y2, y3, y4, y5⟩, hp2, he2, hw2⟩ := no_at (HM.out.blw HK.out.1) hk
        have HP := Hid.mk hp
        have HE := Hid.mk he
        have HW := Hid.mk hw
        have HP2 := Hid.mk hp2
        have HE2 := Hid.mk he2
        have HW2 := Hid.mk hw2
        have HKL := Hid.mk hk
        clear hp he hw hp2 he2 hw2 hk
        generalize hA : N k = A at *
        generalize hB : M k = B at *
        have HA := Hid.mk hA
        have HB := Hid.mk hB
        clear hA hB
        obtain ⟨a0, a1, a2, a3, a4, n4, c4, P, a5, n5, c5, E⟩ := A
        obtain ⟨b0, b1, b2, b3, b4, m4, d4, P2, b5, m5, d5, E2⟩ := B
        dsimp only at x0 x1 x2 x3 x4 x5 y0 y1 y2 y3 y4 y5 HP HE HW HP2 HE2 HW2
        go_upto_region 8 with fail
        obtain ⟨X, hX⟩ : ∃ X, X = ((wr.alloc (.cells #[.int .i64 a0, .int .i64 a1, .int .i64 a2, .int .i64 a3, .slice a4 n4 c4, .slice a5 n5 c5] 39)).alloc (.cells #[.int .i64 b0, .int .i64 b1, .int .i64 b2, .int .i64 b3, .slice b4 m4 d4, .slice b5 m5 d5] 39)) := ⟨_, rfl⟩
        rw [← hX]
        have hBX : Below wr.heap.size wr X := by rw [hX]; exact ((Below.refl _ wr).alloc (Nat.le_refl _) _).alloc (by simp) _
        have gX : X.heap[wr.heap.size]? = some (.cells #[.int .i64 a0, .int .i64 a1, .int .i64 a2, .int .i64 a3, .slice a4 n4 c4, .slice a5 n5 c5] 39 (0, 0)) := by rw [hX]; exact two_old wr _ _
        have gY : X.heap[wr.heap.size + 1]? = some (.cells #[.int .i64 b0, .int .i64 b1, .int .i64 b2, .int .i64 b3, .slice b4 m4 d4, .slice b5 m5 d5] 39 (0, 0)) := by rw [hX]; exact two_new wr _ _
        have BX := Hid.mk hBX
        clear hX hBX x0 x1 x2 x3 x4 x5 y0 y1 y2 y3 y4 y5
        have x0 := blk_cell gX 0
        have x1 := blk_cell gX 1
        have x2 := blk_cell gX 2
        have x3 := blk_cell gX 3
        have x4 := blk_cell gX 4
        have x5 := blk_cell gX 5
        have y0 := blk_cell gY 0
        have y1 := blk_cell gY 1
        have y2 := blk_cell gY 2
        have y3 := blk_cell gY 3
        have y4 := blk_cell gY 4
        have y5 := blk_cell gY 5
        simp at x0 x1 x2 x3 x4 x5 y0 y1 y2 y3 y4 y5
        have BW : Hid (Below w.heap.size w X) := Hid.mk (HK.out.1.trans (BX.out.mono HK.out.1.size))
        have HEX := Hid.mk (HE.out.blw BX.out)
        have HEY := Hid.mk (HE2.out.blw BX.out)
        have HPX := Hid.mk (HP.out.blw BX.out)
        have HPY := Hid.mk (HP2.out.blw BX.out)
        generalize wr.heap.size = g at *
        clear gX gY BX HE HE2 HP HP2 hab hbb
        cases hh : sameH ⟨a0, a1, a2, a3, a4, n4, c4, P, a5, n5, c5, E⟩ ⟨b0, b1, b2, b3, b4, m4, d4, P2, b5, m5, d5, E2⟩ with
        | false =>
          have HF : Hid (sameN ⟨a0, a1, a2, a3, a4, n4, c4, P, a5, n5, c5, E⟩ ⟨b0, b1, b2, b3, b4, m4, d4, P2, b5, m5, d5, E2⟩ = false) := Hid.mk (by unfold sameN; rw [hh]; rfl)
          rcases sameH_no hh with h0 | ⟨h0, h1 | ⟨h1, h2 | ⟨h2, h3 | ⟨h3, h4 | ⟨h4, h5⟩⟩⟩⟩⟩
          all_goals dsimp only at *
          all_goals clear hh
          · have i0 : ¬ a0 = b0 := h0
            have i1 : (a0 == b0) = false := by simpa using i0
            clear h0
            go_wp2
            go_ret
            exact ⟨by rw [sameL_no HKL.out (by rw [HA.out, HB.out]; exact HF.out)]; rfl, BW.out⟩
          · subst h0
            have i0 : ¬ a1 = b1 := h1
            have i1 : (a1 == b1) = false := by simpa using i0
            clear h1
            go_wp2
            go_ret
            exact ⟨by rw [sameL_no HKL.out (by rw [HA.out, HB.out]; exact HF.out)]; rfl, BW.out⟩
          · subst h0
            subst h1
            have i0 : ¬ a2 = b2 := h2
            have i1 : (a2 == b2) = false := by simpa using i0
            clear h2
            go_wp2
            go_ret
            exact ⟨by rw [sameL_no HKL.out (by rw [HA.out, HB.out]; exact HF.out)]; rfl, BW.out⟩
          · subst h0
            subst h1
            subst h2
            have i0 : ¬ a3 = b3 := h3
            have i1 : (a3 == b3) = false := by simpa using i0
            clear h3
            go_wp2
            go_ret
            exact ⟨by rw [sameL_no HKL.out (by rw [HA.out, HB.out]; exact HF.out)]; rfl, BW.out⟩
          · subst h0
            subst h1
            subst h2
            subst h3
            have i0 : ¬ (n5 : Int) = (m5 : Int) := by omega
            have i1 : ((n5 : Int) == (m5 : Int)) = false := by simpa using i0
            have i2 : ¬ n5 = m5 := h4
            clear h4
            go_wp2
            go_ret
            exact ⟨by rw [sameL_no HKL.out (by rw [HA.out, HB.out]; exact HF.out)]; rfl, BW.out⟩
          · subst h0
            subst h1
            subst h2
            subst h3
            subst h4
            have i0 : ¬ (n4 : Int) = (m4 : Int) := by omega
            have i1 : ((n4 : Int) == (m4 : Int)) = false := by simpa using i0
            have i2 : ¬ n4 = m4 := h5
            clear h5
            go_wp2
            go_ret
            exact ⟨by rw [sameL_no HKL.out (by rw [HA.out, HB.out]; exact HF.out)]; rfl, BW.out⟩
        | true =>
          have HH := Hid.mk hh
          have e0 : a0 = b0 ∧ a1 = b1 ∧ a2 = b2 ∧ a3 = b3 ∧ n5 = m5 ∧ n4 = m4 := by simp [sameH] at hh; omega
          obtain ⟨rfl, rfl, rfl, rfl, rfl, rfl⟩ := e0
          clear hh
          go_wp2
          go_loopw [8] (fun kv wr2 => ∃ k2 q2 : Nat, kv = .int .i64 k2 ∧ wr2 = X.drewN q2 ∧ Hid (k2 ≤ n5 ∧ ∀ j, j < k2 → sameE (E j) (E2 j) = true)) (fun kv _ => n5 - (Go.RowKit.intOf kv).toNat)
          case atStart => exact ⟨0, 0, rfl, rfl, Hid.mk ⟨Nat.zero_le _, fun j hj => by omega⟩⟩
          case round =>
            obtain ⟨k2, q2, rfl, rfl, H2⟩ := hrel
            by_cases hl2 : (k2 : Int) < (n5 : Int)
            · have hk2 : k2 < n5 := by omega
              obtain ⟨e1, o1, rfl, he1, hc1⟩ := HEX.out (by omega)
              obtain ⟨z0, z1⟩ := hc1 k2 hk2
              obtain ⟨e2, o2, rfl, he2, hc2⟩ := HEY.out (by omega)
              obtain ⟨q0, q1⟩ := hc2 k2 hk2
              have HK2 := Hid.mk hk2
              have HN5 : Hid (n5 ≤ 9223372036854775807) := Hid.mk HW.out.2.1
              have hw5 : IntKind.i64.wrap ((k2 : Int) + 1) = ((k2 + 1 : Nat) : Int) := by have := HN5.out; rw [IntKind.wrap_i64]; omega
              clear hk2 hc1 hc2 he1 he2
              generalize hE1 : E k2 = v1 at *
              generalize hE2 : E2 k2 = v2 at *
              have HE1 := Hid.mk hE1
              have HE2 := Hid.mk hE2
              clear hE1 hE2
              obtain ⟨p1, s1⟩ := v1
              obtain ⟨p2, s2⟩ := v2
              dsimp only at z0 z1 q0 q1
              cases hq : eqE p1 s1 p2 s2 with
              | false =>
                have HF : Hid (sameN ⟨a0, a1, a2, a3, a4, n4, c4, P, some ⟨e1, o1, none⟩, n5, c5, E⟩ ⟨a0, a1, a2, a3, b4, n4, d4, P2, some ⟨e2, o2, none⟩, n5, d5, E2⟩ = false) := Hid.mk (by unfold sameN; rw [rowB_no (n := n5) (j := k2) HK2.out (by dsimp only; rw [HE1.out, HE2.out, ← eqE_same]; exact hq)]; simp)
                go_upto_region 13 with fail
                refine wp_region_quiet_lit (by kernel_rfl) (by kernel_rfl) ?_
                iterate 10 (go_big_quiet_step (fail))
                refine quietL_known (.bool (!eqE p1 s1 p2 s2)) (by kernel_rfl) (fun w _ => by exact exec_neq (i := p1) (s := s1) (j := p2) (t := s2) rfl (by kernel_rfl) (by kernel_rfl)) ?_
                simp only [Act.put, List.setIfInBounds_toArray, List.set_cons_zero, List.set_cons_succ]
                rw [hq]
                refine wpQuiet_nil ?_
                intro _ hw'
                obtain ⟨nq, hw''⟩ := hw'
                subst hw''
                go_wp2
                go_ret
                exact ⟨by rw [sameL_no HKL.out (by rw [HA.out, HB.out]; exact HF.out)]; rfl, by first | exact blw_drewN BW.out _ | exact blw_drewN (blw_drewN BW.out _) _⟩
              | true =>
                have HT : Hid (sameE (E k2) (E2 k2) = true) := Hid.mk (by rw [HE1.out, HE2.out, ← eqE_same]; exact hq)
                go_upto_region 13 with fail
                refine wp_region_quiet_lit (by kernel_rfl) (by kernel_rfl) ?_
                iterate 10 (go_big_quiet_step (fail))
                refine quietL_known (.bool (!eqE p1 s1 p2 s2)) (by kernel_rfl) (fun w _ => by exact exec_neq (i := p1) (s := s1) (j := p2) (t := s2) rfl (by kernel_rfl) (by kernel_rfl)) ?_
                simp only [Act.put, List.setIfInBounds_toArray, List.set_cons_zero, List.set_cons_succ]
                rw [hq]
                refine wpQuiet_nil ?_
                intro _ hw'
                obtain ⟨nq, hw''⟩ := hw'
                subst hw''
                go_wp2
                go_roundw
                case rel => exact ⟨k2 + 1, q2 + nq, by go_num, by simp, Hid.mk ⟨HK2.out, fun j hj => by
                  rcases Nat.lt_or_ge j k2 with h | h
                  · exact H2.out.2 j h
                  · obtain rfl : j = k2 := by omega
                    exact HT.out⟩⟩
                case measure => have := HK2.out; simp [Go.RowKit.intOf]; omega
            · have HS : Hid (rowB n5 (fun j => sameE (E j) (E2 j)) = true) := Hid.mk (rowB_yes (fun j hj => H2.out.2 j (by omega)))
              go_wp2
              go_loopw [9] (fun kv wr3 => ∃ k3 q3 : Nat, kv = .int .i64 k3 ∧ wr3 = X.drewN q3 ∧ Hid (k3 ≤ n4 ∧ ∀ j, j < k3 → sameP (P j) (P2 j) = true)) (fun kv _ => n4 - (Go.RowKit.intOf kv).toNat)
              case atStart => exact ⟨0, q2, rfl, rfl, Hid.mk ⟨Nat.zero_le _, fun j hj => by omega⟩⟩
              case round =>
                obtain ⟨k3, q3, rfl, rfl, H3⟩ := hrel
                by_cases hl3 : (k3 : Int) < (n4 : Int)
                · have hk3 : k3 < n4 := by omega
                  obtain ⟨e1, o1, rfl, he1, hc1⟩ := HPX.out (by omega)
                  obtain ⟨⟨z0, z1⟩, zb, zw⟩ := hc1 k3 hk3
                  obtain ⟨e2, o2, rfl, he2, hc2⟩ := HPY.out (by omega)
                  obtain ⟨⟨q0, q1⟩, qb, qw⟩ := hc2 k3 hk3
                  have HK3 := Hid.mk hk3
                  have HN4 : Hid (n4 ≤ 9223372036854775807) := Hid.mk HW.out.1
                  have hw5 : IntKind.i64.wrap ((k3 : Int) + 1) = ((k3 + 1 : Nat) : Int) := by have := HN4.out; rw [IntKind.wrap_i64]; omega
                  clear hk3 hc1 hc2 he1 he2 hl2
                  generalize hE1 : P k3 = v1 at *
                  generalize hE2 : P2 k3 = v2 at *
                  have HE1 := Hid.mk hE1
                  have HE2 := Hid.mk hE2
                  clear hE1 hE2
                  obtain ⟨p1, t1, l1, g1, d1⟩ := v1
                  obtain ⟨p2, t2, l2, g2, d2⟩ := v2
                  dsimp only at z0 z1 q0 q1 zb qb zw qw
                  have C1 := Hid.mk (fun q q' : Nat => conv_bytes ((X.drewN q).drewN q') t1 l1 g1 d1 zb)
                  have C2 := Hid.mk (fun q q' : Nat => conv_bytes ((X.drewN q).drewN q') t2 l2 g2 d2 qb)
                  obtain ⟨S1, hS1⟩ : ∃ S1, S1 = strOfNums d1 := ⟨_, rfl⟩
                  obtain ⟨S2, hS2⟩ : ∃ S2, S2 = strOfNums d2 := ⟨_, rfl⟩
                  simp only [← hS1] at C1
                  simp only [← hS2] at C2
                  have HS1 := Hid.mk hS1
                  have HS2 := Hid.mk hS2
                  clear hS1 hS2 zb qb zw qw
                  by_cases hp : p1 = p2
                  · by_cases hs : S1 = S2
                    · have HT : Hid (sameP (P k3) (P2 k3) = true) := Hid.mk (by rw [HE1.out, HE2.out]; unfold sameP; dsimp only; rw [← HS1.out, ← HS2.out, hs, hp]; simp)
                      subst hp
                      simp only [← hs] at C2
                      have hs3 : (S1 == S1) = true := by rw [beq_toListBytes, str_eq]; simp
                      clear hs HS2
                      go_upto_region 18 with fail
                      refine wp_region_quiet_lit (by kernel_rfl) (by kernel_rfl) ?_
                      iterate 20 (go_big_quiet_step (fail))
                      refine quietL_known (.string S1) (by kernel_rfl) (fun W hC => by obtain ⟨q', rfl⟩ := hC; exact exec_convert (v := .slice t1 l1 g1) rfl (by kernel_rfl) (C1.out _ _)) ?_
                      simp only [Act.put, List.setIfInBounds_toArray, List.set_cons_zero, List.set_cons_succ]
                      iterate 6 (go_big_quiet_step (fail))
                      refine quietL_known (.string S1) (by kernel_rfl) (fun W hC => by obtain ⟨q', rfl⟩ := hC; exact exec_convert (v := .slice t2 l2 g2) rfl (by kernel_rfl) (C2.out _ _)) ?_
                      simp only [Act.put, List.setIfInBounds_toArray, List.set_cons_zero, List.set_cons_succ]
                      repeat (go_big_quiet_step (fail))
                      refine wpQuiet_nil ?_
                      intro _ hw'
                      obtain ⟨nq, hw''⟩ := hw'
                      subst hw''
                      go_wp2
                      go_roundw
                      case rel => exact ⟨k3 + 1, q3 + nq, by go_num, by simp, Hid.mk ⟨HK3.out, fun j hj => by
                        rcases Nat.lt_or_ge j k3 with h | h
                        · exact H3.out.2 j h
                        · obtain rfl : j = k3 := by omega
                          exact HT.out⟩⟩
                      case measure => have := HK3.out; simp [Go.RowKit.intOf]; omega
                    · have HF : Hid (sameN ⟨a0, a1, a2, a3, some ⟨e1, o1, none⟩, n4, c4, P, a5, n5, c5, E⟩ ⟨a0, a1, a2, a3, some ⟨e2, o2, none⟩, n4, d4, P2, b5, n5, d5, E2⟩ = false) := Hid.mk (by unfold sameN; rw [rowB_no (n := n4) (j := k3) HK3.out (by dsimp only; rw [HE1.out, HE2.out]; unfold sameP; dsimp only; rw [← HS1.out, ← HS2.out, decide_eq_false hs]; simp)]; simp)
                      have hs2 : (S1.toList == S2.toList) = false := by rw [str_eq, decide_eq_false hs]
                      subst hp
                      go_upto_region 18 with fail
                      refine wp_region_quiet_lit (by kernel_rfl) (by kernel_rfl) ?_
                      iterate 20 (go_big_quiet_step (fail))
                      refine quietL_known (.string S1) (by kernel_rfl) (fun W hC => by obtain ⟨q', rfl⟩ := hC; exact exec_convert (v := .slice t1 l1 g1) rfl (by kernel_rfl) (C1.out _ _)) ?_
                      simp only [Act.put, List.setIfInBounds_toArray, List.set_cons_zero, List.set_cons_succ]
                      iterate 6 (go_big_quiet_step (fail))
                      refine quietL_known (.string S2) (by kernel_rfl) (fun W hC => by obtain ⟨q', rfl⟩ := hC; exact exec_convert (v := .slice t2 l2 g2) rfl (by kernel_rfl) (C2.out _ _)) ?_
                      simp only [Act.put, List.setIfInBounds_toArray, List.set_cons_zero, List.set_cons_succ]
                      repeat (go_big_quiet_step (fail))
                      refine wpQuiet_nil ?_
                      intro _ hw'
                      obtain ⟨nq, hw''⟩ := hw'
                      subst hw''
                      go_wp2
                      go_ret
                      exact ⟨by rw [sameL_no HKL.out (by rw [HA.out, HB.out]; exact HF.out)]; rfl, by first | exact blw_drewN BW.out _ | exact blw_drewN (blw_drewN BW.out _) _⟩
                  · have HF : Hid (sameN ⟨a0, a1, a2, a3, some ⟨e1, o1, none⟩, n4, c4, P, a5, n5, c5, E⟩ ⟨a0, a1, a2, a3, some ⟨e2, o2, none⟩, n4, d4, P2, b5, n5, d5, E2⟩ = false) := Hid.mk (by unfold sameN; rw [rowB_no (n := n4) (j := k3) HK3.out (by dsimp only; rw [HE1.out, HE2.out]; unfold sameP; dsimp only; rw [decide_eq_false hp]; simp)]; simp)
                    have hp2 : (p1 == p2) = false := by simpa using hp
                    have hp3 : decide (p1 = p2) = false := decide_eq_false hp
                    have hp4 : (p1 != p2) = true := by simpa using hp
                    go_upto_region 18 with fail
                    refine wp_region_quiet_lit (by kernel_rfl) (by kernel_rfl) ?_
                    repeat (go_big_quiet_step (fail))
                    refine wpQuiet_nil ?_
                    intro _ hw'
                    obtain ⟨nq, hw''⟩ := hw'
                    subst hw''
                    go_wp2
                    go_ret
                    exact ⟨by rw [sameL_no HKL.out (by rw [HA.out, HB.out]; exact HF.out)]; rfl, by first | exact blw_drewN BW.out _ | exact blw_drewN (blw_drewN BW.out _) _⟩
                · have HR : Hid (rowB n4 (fun j => sameP (P j) (P2 j)) = true) := Hid.mk (rowB_yes (fun j hj => H3.out.2 j (by omega)))
                  have HT : Hid (sameN (N k) (M k) = true) := Hid.mk (by rw [HA.out, HB.out]; unfold sameN; dsimp only; rw [HS.out, HR.out, HH.out]; rfl)
                  have HL1 : IntKind.i64.wrap ((k : Int) + 1) = ((k + 1 : Nat) : Int) := by have := HKL.out; have := HL.out; rw [IntKind.wrap_i64]; omega
                  clear hl2
                  go_wp2
                  go_roundw
                  case rel => exact ⟨k + 1, by go_num, Hid.mk ⟨blw_drewN BW.out _, HKL.out, fun j hj => by
                    rcases Nat.lt_or_ge j k with h | h
                    · exact HK.out.2.2 j h
                    · obtain rfl : j = k := by omega
                      exact HT.out⟩⟩
                  case measure => have := HKL.out; simp [Go.RowKit.intOf]; omega
      · go_wp2
        go_ret
        exact ⟨by rw [sameL_yes (fun j hj => HK.out.2.2 j (by have := HK.out.2.1; omega))]; rfl, HK.out.1⟩
  · have h1 : ¬ (n : Int) = (m : Int) := by omega
    have h2 : ((n : Int) == (m : Int)) = false := by simpa using h1
    go_enter Try.func19, Try.ntmps19
    go_wp2
    go_ret
    exact ⟨by unfold sameL; rw [decide_eq_false hnm]; rfl, Below.refl _ _⟩
end Go.Proofs.Ytbahbhaoimabdaa
