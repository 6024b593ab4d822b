/-
  The law DepsPlay.
-/
import Derived.Test.YthmbhcmicebcpaaDpPl
namespace Go.Proofs.Ythmbhcmicebcpaa
open Go Go.Proofs Go.RowKit Go.Shelf
attribute [local go_sem] Oper.semAt_some
theorem same2 {W1 W2 W : World} {a b : Option Addr} {n c d : Nat} {L : List Int} (h1 : LAt W1 a n L) (h2 : LAt W2 b n L) (q1 : Below W1.heap.size W1 W) (q2 : Below W2.heap.size W2 W) (hn : n ≤ 150) : Calls Try.prog 15 #[.slice a n c, .slice b n d] W fun e W' => e = .returned (.bool true) ∧ Below W.heap.size W W' := by
  have := sameints_any W a b n n c d L L (h1.next q1) (h2.next q2) (by omega) (by omega)
  rw [decide_eq_true rfl] at this
  exact this
set_option maxRecDepth 100000 in
set_option maxHeartbeats 16000000 in
theorem dplay_any (w : World) (ao : Option Addr) (n cc : Nat) (V : Nat → ActV) (hV : ActsAt w ao n V) (hn : n ≤ 9223372036854775807) (b id : Int) (hwb : (Lit.int .i64 b).wf = true) (hwi : (Lit.int .i64 id).wf = true) (ap : Option Addr) (np cp : Nat) (Ps : List Int) (hP : LAt w ap np Ps) (hnp : np ≤ 9223372036854775807) (hwp : ∀ x ∈ Ps, (Lit.int .i64 x).wf = true) : Calls Try.prog 3 #[.slice ao n cc, .int .i64 b, .int .i64 id, .slice ap np cp] w fun e w' => e = .returned (.bool true) ∧ Below w.heap.size w w' := by
  have HAL := Hid.mk (alive_any w)
  have HBIG : Hid (∀ W, Below w.heap.size w W → Calls Try.prog 10 #[.slice ao n cc] W fun e W' => BigTo n V e ∧ W' = W) := Hid.mk (fun W hB => big_any W ao n cc V (fun h0 => by
    obtain ⟨ab, off, e, hl, hc⟩ := hV h0
    refine ⟨ab, off, e, Nat.lt_of_lt_of_le hl hB.size, fun j hj => ?_⟩
    obtain ⟨ab', off', e', _, h⟩ := acts_at hV hB hj
    rw [e] at e'
    cases e'
    exact h) hn)
  have HBOTH : Hid (∀ W, Below w.heap.size w W → (n ≤ 150 ∧ ∀ j, j < n → (V j).m ≤ 1000) → Calls Try.prog 11 #[.slice ao n cc] W fun e w' => ∃ g r, e = .returned (.tuple #[ptV g, ptV r, .bool true]) ∧ Hid (BothTo W n g r w' ∧ Below w.heap.size w W ∧ n ≤ 150)) := Hid.mk (fun W hB hb => by
    refine (both_any w W hB ao n cc V hV hb.1 hb.2).mono ?_
    rintro e w' ⟨g, r, rfl, HQ⟩
    exact ⟨g, r, rfl, Hid.mk ⟨HQ.out, hB, hb.1⟩⟩)
  have HPS : Hid (∀ W, Below w.heap.size w W → LAt W ap np Ps) := Hid.mk (fun W hB => hP.next hB)
  have HWP := Hid.mk hwp
  have HWB := Hid.mk hwb
  have HWI := Hid.mk hwi
  clear hV hP hwp hwb hwi
  by_cases h200 : (200 : Int) < (np : Int)
  · go_enter Try.func3, Try.ntmps3
    go_wp2_with (first
      | (go_at_call 9; refine HAL.out.mono ?_; rintro e w1 ⟨rfl, hb1⟩; have HB1 := Hid.mk hb1; clear hb1 HAL)
      | (go_at_call 10; refine (HBIG.out _ HB1.out).mono ?_; rintro e w2 ⟨⟨bb, rfl, hbb⟩, rfl⟩; clear hbb HBIG; cases bb)
      | go_in)
    all_goals
      go_ret
      exact ⟨rfl, HB1.out⟩
  have HNP : Hid (np ≤ 200) := Hid.mk (by omega)
  go_enter Try.func3, Try.ntmps3
  go_upto_region 3 with (first
    | (go_at_call 9; refine HAL.out.mono ?_; rintro e w1 ⟨rfl, hb1⟩; have HB1 := Hid.mk hb1; clear hb1 HAL)
    | (go_at_call 10; refine (HBIG.out _ HB1.out).mono ?_; rintro e w2 ⟨⟨bb, rfl, hbb⟩, hw2⟩; have hw2' := hw2.symm; clear hw2; subst hw2'; have HBB := Hid.mk hbb; clear hbb HBIG)
    | go_in)
  cases bb with
  | true =>
    go_wp2
    go_ret
    exact ⟨rfl, HB1.out⟩
  | false =>
  have HBO := Hid.mk (HBOTH.out _ HB1.out (HBB.out rfl))
  clear HBOTH HBB
  go_upto_region 8 with (first
    | (go_at_call 11; refine HBO.out.mono ?_; rintro e w3 ⟨g, r, rfl, H3⟩; clear HBO)
    | go_in)
  obtain ⟨⟨v, G, A, h1, h2, h3, h4⟩, h5, h6⟩ := H3.out
  have HN : Hid (G.n ≤ 150) := Hid.mk (by omega)
  have HBo : Hid (Bo (fun _ => False) w w3 g r v G A) := Hid.mk (h1.rebase h5)
  have HR := Hid.mk h2
  have HG := Hid.mk h3
  have HBW : Hid (∀ W, Below w3.heap.size w3 W → Below w.heap.size w W) := Hid.mk (fun W hB => HBo.out.bel.trans (hB.mono HBo.out.bel.size))
  have HDN := Hid.mk (pl_done HBo.out HR.out id HWI.out)
  have HLF := Hid.mk (pl_left HBo.out HR.out)
  have HNX := Hid.mk (pl_next HBo.out HR.out HG.out HN.out b HWB.out)
  have HBL := Hid.mk (pl_blocked HBo.out HR.out HG.out HN.out b HWB.out)
  have HBU := Hid.mk (pl_bufs HBo.out HR.out HG.out HN.out)
  have HRY := Hid.mk (pl_ready HBo.out HR.out HG.out HN.out)
  have HND := Hid.mk (pl_need HBo.out HR.out HG.out HN.out ap np cp Ps (fun W hB => HPS.out W (HBW.out W hB)) HWP.out HNP.out)
  obtain ⟨ar, cap, hvs, _⟩ : ∃ ar cap, v = .slice ar G.n cap ∧ True := by
    obtain ⟨Fr, _, q, _⟩ := HBo.out
    obtain ⟨ar, cap, e, _⟩ := q.slice
    exact ⟨ar, cap, e, trivial⟩
  subst hvs
  obtain ⟨gn, hgn⟩ : ∃ gn, gn = G.n := ⟨_, rfl⟩
  have HF : Hid (∀ W, Below w3.heap.size w3 W → W.cell? ⟨r, 0, none⟩ = some (.slice ar gn cap) ∧ (∀ j : Nat, j < gn → ∃ gb, ar = some ⟨gb, 0, none⟩ ∧ W.cell? ⟨gb, j * 3 + 2, none⟩ = some (.bool (G.dn j)))) := Hid.mk (fun W hB => by
    obtain ⟨Fr, _, q, _⟩ := HBo.out.grow hB
    rw [hgn]
    refine ⟨q.cell, fun j hj => ?_⟩
    obtain ⟨gb, cap', e, _, _, _, _, hc⟩ := q.at' (by omega)
    cases e
    exact ⟨gb, rfl, (hc j hj).2.2⟩)
  have HGN : Hid (gn = G.n ∧ gn ≤ 150) := Hid.mk ⟨hgn, by have := HN.out; omega⟩
  obtain ⟨c0, hcs⟩ := HF.out w3 (Below.refl _ _)
  clear h1 h2 h3 h4 h5 h6 H3 hgn
  obtain ⟨dv, hdv⟩ : ∃ dv, dv = doneP G id := ⟨_, rfl⟩
  rw [← hdv] at HDN
  have HW : Hid (Below w3.heap.size w3 w3) := Hid.mk (Below.refl _ _)
  obtain ⟨nl, hnl⟩ : ∃ nl, nl = cnt G := ⟨_, rfl⟩
  rw [← hnl] at HLF
  obtain ⟨L1, hL1⟩ : ∃ L1, L1 = nxL A b := ⟨_, rfl⟩
  obtain ⟨L2, hL2⟩ : ∃ L2, L2 = blL A b := ⟨_, rfl⟩
  rw [← hL1] at HNX
  rw [← hL2] at HBL
  obtain ⟨m1, hm1⟩ : ∃ m1, m1 = L1.length := ⟨_, rfl⟩
  obtain ⟨m2, hm2⟩ : ∃ m2, m2 = L2.length := ⟨_, rfl⟩
  unfold GivesL at HNX HBL HBU HRY HND
  obtain ⟨L3, hL3⟩ : ∃ L3, L3 = bufP G (undB G) G.n := ⟨_, rfl⟩
  obtain ⟨L4, hL4⟩ : ∃ L4, L4 = bufP G (fun j => mayB G j) G.n := ⟨_, rfl⟩
  obtain ⟨L5, hL5⟩ : ∃ L5, L5 = needL G Ps := ⟨_, rfl⟩
  rw [← hL3] at HBU
  rw [← hL4] at HRY
  rw [← hL5] at HND
  obtain ⟨m3, hm3⟩ : ∃ m3, m3 = L3.length := ⟨_, rfl⟩
  obtain ⟨m4, hm4⟩ : ∃ m4, m4 = L4.length := ⟨_, rfl⟩
  obtain ⟨m5, hm5⟩ : ∃ m5, m5 = L5.length := ⟨_, rfl⟩
  rw [← hm3] at HBU
  rw [← hm4] at HRY
  rw [← hm5] at HND
  have HM3 := Hid.mk hm3
  have HM3b := Hid.mk HBU.out.2.2.1
  have HWF := Hid.mk HBU.out.2.2.2
  clear hL3 hL4 hL5 hm3 hm4 hm5
  rw [← hm1] at HNX
  rw [← hm2] at HBL
  clear hnl hL1 hL2 hm1 hm2
  go_cut [14] from 41 to 61 (fun v W => v = .bool dv ∧ W = w3)
  case first =>
    by_cases hy0 : 0 ≤ id
    · have hd0 : decide (0 ≤ id) = true := decide_eq_true hy0
      obtain ⟨yn, rfl⟩ : ∃ yn : Nat, id = (yn : Int) := ⟨id.toNat, by omega⟩
      by_cases hyn : yn < gn
      · have hd1 : decide ((yn : Int) < (gn : Int)) = true := decide_eq_true (by omega)
        have hd2 : decide (yn < gn) = true := decide_eq_true hyn
        have hy1 : (yn : Int) < (gn : Int) := by omega
        obtain ⟨gb, rfl, c2⟩ := hcs yn hyn
        have e9 : (⟨gb, 0, none⟩ : Addr).add (yn * 3) = ⟨gb, yn * 3, none⟩ := by rw [add_at]; simp
        have hdv2 : G.dn yn = dv := by rw [hdv]; have := HGN.out.1; simp [doneP]; omega
        rw [hdv2] at c2
        clear hcs hdv hdv2
        go_wp2
        go_meet
        case rel => exact ⟨rfl, rfl⟩
      · have hd1 : decide ((yn : Int) < (gn : Int)) = false := decide_eq_false (by omega)
        have hd2 : decide (yn < gn) = false := decide_eq_false hyn
        have hdv2 : Hid (dv = false) := Hid.mk (by rw [hdv]; have := HGN.out.1; simp [doneP]; omega)
        clear hcs hdv
        go_wp2
        go_meet
        case rel => exact ⟨by rw [hdv2.out], rfl⟩
    · have hd0 : decide (0 ≤ id) = false := decide_eq_false hy0
      have hdv2 : Hid (dv = false) := Hid.mk (by rw [hdv]; simp [doneP, hy0])
      clear hcs hdv
      go_wp2
      go_meet
      case rel => exact ⟨by rw [hdv2.out], rfl⟩
  case rest =>
  obtain ⟨rfl, hw9⟩ := hcut
  have hw9' := hw9.symm
  clear hw9
  subst hw9'
  clear hcs hdv

  go_upto_region 9 with go_in
  go_wp2_with (first
    | (go_at_call 12; refine (HDN.out _ HW.out).mono ?_; rintro e w4 ⟨rfl, hw4⟩; have hw4' := hw4.symm; clear hw4; subst hw4'; clear HDN)
    | (go_at_call 13; refine (HLF.out _ HW.out).1.mono ?_; rintro e w4 ⟨rfl, hw4⟩; have hw4' := hw4.symm; clear hw4; subst hw4')
    | (go_at_call 14; refine (HLF.out _ HW.out).2.mono ?_; rintro e w4 ⟨rfl, hw4⟩; have hw4' := hw4.symm; clear hw4; subst hw4'; clear HLF)
    | (go_at_call 16; refine (HNX.out.1 _ HW.out).mono ?_; rintro e w4 ⟨a4, c4, rfl, H4⟩; have HW4 := Hid.mk (HW.out.trans (H4.out.2.mono HW.out.size)))
    | (go_at_call 17; refine (HNX.out.2.1 _ HW4.out).mono ?_; rintro e w5 ⟨a5, c5, rfl, H5⟩; have HW5 := Hid.mk (HW4.out.trans (H5.out.2.mono HW4.out.size)))
    | (go_at_call 15; refine (same2 H4.out.1 H5.out.1 H5.out.2 (Below.refl _ _) HNX.out.2.2).mono ?_; rintro e w6 ⟨rfl, hb6⟩; have HW6 := Hid.mk (HW5.out.trans (hb6.mono HW5.out.size)); clear hb6 H4 H5 HW HW4 HW5)
    | (go_at_call 18; refine (HBL.out.1 _ HW6.out).mono ?_; rintro e w4 ⟨a4, c4, rfl, H4⟩; have HW4 := Hid.mk (HW6.out.trans (H4.out.2.mono HW6.out.size)))
    | (go_at_call 19; refine (HBL.out.2.1 _ HW4.out).mono ?_; rintro e w5 ⟨a5, c5, rfl, H5⟩; have HW5 := Hid.mk (HW4.out.trans (H5.out.2.mono HW4.out.size)))
    | (go_at_call 15; refine (same2 H4.out.1 H5.out.1 H5.out.2 (Below.refl _ _) HBL.out.2.2).mono ?_; rintro e w7 ⟨rfl, hb7⟩; have HW7 := Hid.mk (HW5.out.trans (hb7.mono HW5.out.size)); clear hb7 H4 H5 HW4 HW5 HW6)
    | (go_at_call 20; refine (HBU.out.1 _ HW7.out).mono ?_; rintro e w8 ⟨a8, c8, rfl, H8⟩; have HW8 := Hid.mk (HW7.out.trans (H8.out.2.mono HW7.out.size)); clear HW7)
    | (go_at_call 21; refine (HBU.out.2.1 _ HW8.out).mono ?_; rintro e w9 ⟨a9, c9, rfl, H9⟩; have HW9 := Hid.mk (HW8.out.trans (H9.out.2.mono HW8.out.size)))
    | (go_at_call 15; refine (same2 H8.out.1 H9.out.1 H9.out.2 (Below.refl _ _) HBU.out.2.2.1).mono ?_; rintro e w10 ⟨rfl, hb10⟩; have HW10 := Hid.mk (HW9.out.trans (hb10.mono HW9.out.size)); have HROW := Hid.mk (H8.out.1.next (H9.out.2.trans (hb10.mono H9.out.2.size))); clear hb10 H8 H9 HW8 HW9)
    | (go_at_call 22; refine (HRY.out.1 _ HW10.out).mono ?_; rintro e w11 ⟨a11, c11, rfl, H11⟩; have HW11 := Hid.mk (HW10.out.trans (H11.out.2.mono HW10.out.size)))
    | (go_at_call 21; refine (HRY.out.2.1 _ HW11.out).mono ?_; rintro e w12 ⟨a12, c12, rfl, H12⟩; have HW12 := Hid.mk (HW11.out.trans (H12.out.2.mono HW11.out.size)))
    | (go_at_call 15; refine (same2 H11.out.1 H12.out.1 H12.out.2 (Below.refl _ _) HRY.out.2.2).mono ?_; rintro e w13 ⟨rfl, hb13⟩; have HW13 := Hid.mk (HW12.out.trans (hb13.mono HW12.out.size)); have HROW3 := Hid.mk ((HROW.out.next H11.out.2).next (H12.out.2.trans (hb13.mono H12.out.2.size))); clear hb13 H11 H12 HW10 HW11 HW12 HROW)
    | (go_at_call 23; refine (HND.out.1 _ HW13.out).mono ?_; rintro e w14 ⟨a14, c14, rfl, H14⟩; have HW14 := Hid.mk (HW13.out.trans (H14.out.2.mono HW13.out.size)))
    | (go_at_call 24; refine (HND.out.2.1 _ HW14.out).mono ?_; rintro e w15 ⟨a15, c15, rfl, H15⟩; have HW15 := Hid.mk (HW14.out.trans (H15.out.2.mono HW14.out.size)))
    | (go_at_call 15; refine (same2 H14.out.1 H15.out.1 H15.out.2 (Below.refl _ _) HND.out.2.2).mono ?_; rintro e w16 ⟨rfl, hb16⟩; have HW16 := Hid.mk (HW15.out.trans (hb16.mono HW15.out.size)); have HROW6 := Hid.mk ((HROW3.out.next H14.out.2).next (H15.out.2.trans (hb16.mono H15.out.2.size))); clear hb16 H14 H15 HW13 HW14 HW15 HROW3)
    | go_in)
  clear HBU HRY HND HNX HBL c0
  have HW := HW16
  have HROW := HROW6
  clear HW16 HROW6
  go_loopw [17] (fun kv wr => ∃ k : Nat, kv = .int .i64 k ∧ Hid (k ≤ m3 ∧ Below w3.heap.size w3 wr ∧ LAt wr a8 m3 L3)) (fun kv _ => m3 - (Go.RowKit.intOf kv).toNat)
  case atStart => exact ⟨0, rfl, Hid.mk ⟨Nat.zero_le _, HW.out, HROW.out⟩⟩
  case round =>
    obtain ⟨k, rfl, HK⟩ := hrel
    clear HW HROW
    by_cases hkm : (k : Int) < (m3 : Int)
    · have HKL : Hid (k < m3 ∧ k < L3.length) := Hid.mk (by have := HM3.out; omega)
      have v1 : IntKind.i64.wrap ((k : Int) + 1) = ((k + 1 : Nat) : Int) := by have := HM3b.out; rw [IntKind.wrap_i64]; omega
      have k0 : (0 : Int) ≤ (k : Int) := by omega
      obtain ⟨a, rfl, _, _⟩ := HK.out.2.2.2 (by omega)
      have HCX : Hid (∀ W, Below wr.heap.size wr W → W.cell? (a.add k) = some (.int .i64 (L3.getD k 0))) := Hid.mk (fun W hB => by
        obtain ⟨a', e, _, hca⟩ := (HK.out.2.2.next hB).2 (by have := HKL.out.1; omega)
        cases e
        exact hca k HKL.out.1)
      have HWX : Hid ((Lit.int .i64 (L3.getD k 0)).wf = true) := Hid.mk (HWF.out _ (by rw [List.getD, List.getElem?_eq_getElem HKL.out.2]; exact List.getElem_mem _))
      generalize L3.getD k 0 = x at HCX HWX
      have HNX := Hid.mk (pl_next HBo.out HR.out HG.out HN.out x HWX.out)
      have HBL := Hid.mk (pl_blocked HBo.out HR.out HG.out HN.out x HWX.out)
      unfold GivesL at HNX HBL
      generalize nxL A x = LN at HNX
      generalize blL A x = LB at HBL
      obtain ⟨mN, hmN⟩ : ∃ m, m = LN.length := ⟨_, rfl⟩
      obtain ⟨mB, hmB⟩ : ∃ m, m = LB.length := ⟨_, rfl⟩
      rw [← hmN] at HNX
      rw [← hmB] at HBL
      clear hmN hmB
      have hH : (fun W : World => W.cell? (a.add k) = some (.int .i64 x)) wr.drew := HCX.out _ (drew_below wr)
      have HWD : Hid (Below w3.heap.size w3 wr.drew) := Hid.mk (HK.out.2.1.trans ((drew_below wr).mono HK.out.2.1.size))
      have HUP : Hid (∀ W, Below wr.drew.heap.size wr.drew W → Below w3.heap.size w3 W) := Hid.mk (fun W hB => HWD.out.trans (hB.mono HWD.out.size))
      have HCU : Hid (∀ W, Below wr.drew.heap.size wr.drew W → W.cell? (a.add k) = some (.int .i64 x)) := Hid.mk (fun W hB => HCX.out W ((drew_below wr).trans (hB.mono (drew_below wr).size)))
      go_wp2
      refine wp_region_held_drew (S := fun W : World => W.cell? (a.add k) = some (.int .i64 x)) (by kernel_rfl) hH (fun hH => ?_)
      change wpAnyH Try.prog Region.Mode.any _ _ _ 30 _ _ _

      refine takeH 0 122 (ptV g) rfl (by kernel_rfl) (by kernel_rfl) (by kernel_rfl) (by kernel_rfl) (fun _ _ _ h => h) (by kernel_rfl) (fun w hw => by kernel_rfl) hH ?_
      simp only [List.setIfInBounds_toArray, List.set_cons_zero, List.set_cons_succ]
      refine takeH 1 123 (.slice (some a) m3 c8) rfl (by kernel_rfl) (by kernel_rfl) (by kernel_rfl) (by kernel_rfl) (fun _ _ _ h => h) (by kernel_rfl) (fun w hw => by kernel_rfl) hH ?_
      simp only [List.setIfInBounds_toArray, List.set_cons_zero, List.set_cons_succ]
      refine takeH 2 124 (.int .i64 k) rfl (by kernel_rfl) (by kernel_rfl) (by kernel_rfl) (by kernel_rfl) (fun _ _ _ h => h) (by kernel_rfl) (fun w hw => by kernel_rfl) hH ?_
      simp only [List.setIfInBounds_toArray, List.set_cons_zero, List.set_cons_succ]
      refine takeH 3 125 (.pointer (some (a.add k))) rfl (by kernel_rfl) (by kernel_rfl) (by kernel_rfl) (by kernel_rfl) (fun _ _ _ h => h) (by kernel_rfl) (fun w hw => by go_simp) hH ?_
      simp only [List.setIfInBounds_toArray, List.set_cons_zero, List.set_cons_succ]
      refine takeH 4 126 (.int .i64 x) rfl (by kernel_rfl) (by kernel_rfl) (by kernel_rfl) (by kernel_rfl) (fun _ _ _ h => h) (by kernel_rfl) (fun w hw => by ((try dsimp only at hw); go_simp)) hH ?_
      simp only [List.setIfInBounds_toArray, List.set_cons_zero, List.set_cons_succ]
      refine takeH 6 128 (ptV r) rfl (by kernel_rfl) (by kernel_rfl) (by kernel_rfl) (by kernel_rfl) (fun _ _ _ h => h) (by kernel_rfl) (fun w hw => by kernel_rfl) hH ?_
      simp only [List.setIfInBounds_toArray, List.set_cons_zero, List.set_cons_succ]
      refine takeH 7 129 (.slice (some a) m3 c8) rfl (by kernel_rfl) (by kernel_rfl) (by kernel_rfl) (by kernel_rfl) (fun _ _ _ h => h) (by kernel_rfl) (fun w hw => by kernel_rfl) hH ?_
      simp only [List.setIfInBounds_toArray, List.set_cons_zero, List.set_cons_succ]
      refine takeH 8 130 (.int .i64 k) rfl (by kernel_rfl) (by kernel_rfl) (by kernel_rfl) (by kernel_rfl) (fun _ _ _ h => h) (by kernel_rfl) (fun w hw => by kernel_rfl) hH ?_
      simp only [List.setIfInBounds_toArray, List.set_cons_zero, List.set_cons_succ]
      refine takeH 9 131 (.pointer (some (a.add k))) rfl (by kernel_rfl) (by kernel_rfl) (by kernel_rfl) (by kernel_rfl) (fun _ _ _ h => h) (by kernel_rfl) (fun w hw => by go_simp) hH ?_
      simp only [List.setIfInBounds_toArray, List.set_cons_zero, List.set_cons_succ]
      refine takeH 10 132 (.int .i64 x) rfl (by kernel_rfl) (by kernel_rfl) (by kernel_rfl) (by kernel_rfl) (fun _ _ _ h => h) (by kernel_rfl) (fun w hw => by ((try dsimp only at hw); go_simp)) hH ?_
      simp only [List.setIfInBounds_toArray, List.set_cons_zero, List.set_cons_succ]
      refine stepH_call 5 127 rfl (by kernel_rfl) (by kernel_rfl) (by kernel_rfl) 16 #[.tmp 122, .tmp 126] #[26, 3] (by kernel_rfl) (enters_of Try.func16 (by kernel_rfl) rfl) #[ptV g, .int .i64 x] (by kernel_rfl) (HNX.out.1 _ HWD.out) ?_
      rintro e w4 ⟨a4, c4, rfl, H4⟩
      have HB4 := Hid.mk H4.out.2
      have hH := HCU.out _ HB4.out
      refine ⟨_, rfl, hH, ?_⟩
      simp only [List.setIfInBounds_toArray, List.set_cons_zero, List.set_cons_succ]
      refine stepH_call 11 133 rfl (by kernel_rfl) (by kernel_rfl) (by kernel_rfl) 17 #[.tmp 128, .tmp 132] #[27, 3] (by kernel_rfl) (enters_of Try.func17 (by kernel_rfl) rfl) #[ptV r, .int .i64 x] (by kernel_rfl) (HNX.out.2.1 _ (HUP.out _ HB4.out)) ?_
      rintro e w5 ⟨a5, c5, rfl, H5⟩
      have HB5 := Hid.mk (HB4.out.trans (H5.out.2.mono HB4.out.size))
      have hH := HCU.out _ HB5.out
      refine ⟨_, rfl, hH, ?_⟩
      simp only [List.setIfInBounds_toArray, List.set_cons_zero, List.set_cons_succ]
      refine stepH_call 12 134 rfl (by kernel_rfl) (by kernel_rfl) (by kernel_rfl) 15 #[.tmp 127, .tmp 133] #[23, 23] (by kernel_rfl) (enters_of Try.func15 (by kernel_rfl) rfl) #[.slice a4 mN c4, .slice a5 mN c5] (by kernel_rfl) (same2 H4.out.1 H5.out.1 H5.out.2 (Below.refl _ _) HNX.out.2.2) ?_
      rintro e w6 ⟨rfl, hb6⟩
      have HB6 := Hid.mk (HB5.out.trans (hb6.mono HB5.out.size))
      have hH := HCU.out _ HB6.out
      refine ⟨_, rfl, hH, ?_⟩
      simp only [List.setIfInBounds_toArray, List.set_cons_zero, List.set_cons_succ]
      refine takeH 13 135 (.bool false) rfl (by kernel_rfl) (by kernel_rfl) (by kernel_rfl) (by kernel_rfl) (fun _ _ _ h => h) (by kernel_rfl) (fun w hw => by go_simp) hH ?_
      simp only [List.setIfInBounds_toArray, List.set_cons_zero, List.set_cons_succ]
      refine takeH 14 136 (.bool false) rfl (by kernel_rfl) (by kernel_rfl) (by kernel_rfl) (by kernel_rfl) (fun _ _ _ h => h) (by kernel_rfl) (fun w hw => by kernel_rfl) hH ?_
      simp only [List.setIfInBounds_toArray, List.set_cons_zero, List.set_cons_succ]
      refine takeH 15 137 (ptV g) rfl (by kernel_rfl) (by kernel_rfl) (by kernel_rfl) (by kernel_rfl) (fun _ _ _ h => h) (by kernel_rfl) (fun w hw => by kernel_rfl) hH ?_
      simp only [List.setIfInBounds_toArray, List.set_cons_zero, List.set_cons_succ]
      refine takeH 16 138 (.slice (some a) m3 c8) rfl (by kernel_rfl) (by kernel_rfl) (by kernel_rfl) (by kernel_rfl) (fun _ _ _ h => h) (by kernel_rfl) (fun w hw => by kernel_rfl) hH ?_
      simp only [List.setIfInBounds_toArray, List.set_cons_zero, List.set_cons_succ]
      refine takeH 17 139 (.int .i64 k) rfl (by kernel_rfl) (by kernel_rfl) (by kernel_rfl) (by kernel_rfl) (fun _ _ _ h => h) (by kernel_rfl) (fun w hw => by kernel_rfl) hH ?_
      simp only [List.setIfInBounds_toArray, List.set_cons_zero, List.set_cons_succ]
      refine takeH 18 140 (.pointer (some (a.add k))) rfl (by kernel_rfl) (by kernel_rfl) (by kernel_rfl) (by kernel_rfl) (fun _ _ _ h => h) (by kernel_rfl) (fun w hw => by go_simp) hH ?_
      simp only [List.setIfInBounds_toArray, List.set_cons_zero, List.set_cons_succ]
      refine takeH 19 141 (.int .i64 x) rfl (by kernel_rfl) (by kernel_rfl) (by kernel_rfl) (by kernel_rfl) (fun _ _ _ h => h) (by kernel_rfl) (fun w hw => by ((try dsimp only at hw); go_simp)) hH ?_
      simp only [List.setIfInBounds_toArray, List.set_cons_zero, List.set_cons_succ]
      refine takeH 21 143 (ptV r) rfl (by kernel_rfl) (by kernel_rfl) (by kernel_rfl) (by kernel_rfl) (fun _ _ _ h => h) (by kernel_rfl) (fun w hw => by kernel_rfl) hH ?_
      simp only [List.setIfInBounds_toArray, List.set_cons_zero, List.set_cons_succ]
      refine takeH 22 144 (.slice (some a) m3 c8) rfl (by kernel_rfl) (by kernel_rfl) (by kernel_rfl) (by kernel_rfl) (fun _ _ _ h => h) (by kernel_rfl) (fun w hw => by kernel_rfl) hH ?_
      simp only [List.setIfInBounds_toArray, List.set_cons_zero, List.set_cons_succ]
      refine takeH 23 145 (.int .i64 k) rfl (by kernel_rfl) (by kernel_rfl) (by kernel_rfl) (by kernel_rfl) (fun _ _ _ h => h) (by kernel_rfl) (fun w hw => by kernel_rfl) hH ?_
      simp only [List.setIfInBounds_toArray, List.set_cons_zero, List.set_cons_succ]
      refine takeH 24 146 (.pointer (some (a.add k))) rfl (by kernel_rfl) (by kernel_rfl) (by kernel_rfl) (by kernel_rfl) (fun _ _ _ h => h) (by kernel_rfl) (fun w hw => by go_simp) hH ?_
      simp only [List.setIfInBounds_toArray, List.set_cons_zero, List.set_cons_succ]
      refine takeH 25 147 (.int .i64 x) rfl (by kernel_rfl) (by kernel_rfl) (by kernel_rfl) (by kernel_rfl) (fun _ _ _ h => h) (by kernel_rfl) (fun w hw => by ((try dsimp only at hw); go_simp)) hH ?_
      simp only [List.setIfInBounds_toArray, List.set_cons_zero, List.set_cons_succ]
      refine stepH_call 20 142 rfl (by kernel_rfl) (by kernel_rfl) (by kernel_rfl) 18 #[.tmp 137, .tmp 141] #[26, 3] (by kernel_rfl) (enters_of Try.func18 (by kernel_rfl) rfl) #[ptV g, .int .i64 x] (by kernel_rfl) (HBL.out.1 _ (HUP.out _ HB6.out)) ?_
      rintro e w7 ⟨a7, c7, rfl, H7⟩
      have HB7 := Hid.mk (HB6.out.trans (H7.out.2.mono HB6.out.size))
      have hH := HCU.out _ HB7.out
      refine ⟨_, rfl, hH, ?_⟩
      simp only [List.setIfInBounds_toArray, List.set_cons_zero, List.set_cons_succ]
      refine stepH_call 26 148 rfl (by kernel_rfl) (by kernel_rfl) (by kernel_rfl) 19 #[.tmp 143, .tmp 147] #[27, 3] (by kernel_rfl) (enters_of Try.func19 (by kernel_rfl) rfl) #[ptV r, .int .i64 x] (by kernel_rfl) (HBL.out.2.1 _ (HUP.out _ HB7.out)) ?_
      rintro e w8 ⟨a9, c9, rfl, H8⟩
      have HB8 := Hid.mk (HB7.out.trans (H8.out.2.mono HB7.out.size))
      have hH := HCU.out _ HB8.out
      refine ⟨_, rfl, hH, ?_⟩
      simp only [List.setIfInBounds_toArray, List.set_cons_zero, List.set_cons_succ]
      refine stepH_call 27 149 rfl (by kernel_rfl) (by kernel_rfl) (by kernel_rfl) 15 #[.tmp 142, .tmp 148] #[23, 23] (by kernel_rfl) (enters_of Try.func15 (by kernel_rfl) rfl) #[.slice a7 mB c7, .slice a9 mB c9] (by kernel_rfl) (same2 H7.out.1 H8.out.1 H8.out.2 (Below.refl _ _) HBL.out.2.2) ?_
      rintro e w9 ⟨rfl, hb9⟩
      have HB9 := Hid.mk (HB8.out.trans (hb9.mono HB8.out.size))
      have hH := HCU.out _ HB9.out
      refine ⟨_, rfl, hH, ?_⟩
      simp only [List.setIfInBounds_toArray, List.set_cons_zero, List.set_cons_succ]
      refine takeH 28 150 (.bool false) rfl (by kernel_rfl) (by kernel_rfl) (by kernel_rfl) (by kernel_rfl) (fun _ _ _ h => h) (by kernel_rfl) (fun w hw => by go_simp) hH ?_
      simp only [List.setIfInBounds_toArray, List.set_cons_zero, List.set_cons_succ]
      refine takeH 29 151 (.bool false) rfl (by kernel_rfl) (by kernel_rfl) (by kernel_rfl) (by kernel_rfl) (fun _ _ _ h => h) (by kernel_rfl) (fun w hw => by go_simp) hH ?_
      simp only [List.setIfInBounds_toArray, List.set_cons_zero, List.set_cons_succ]
      refine wpAnyH_done (by kernel_rfl) ?_ _
      have HEND : Hid (k + 1 ≤ m3 ∧ Below w3.heap.size w3 w9 ∧ LAt w9 (some a) m3 L3) := Hid.mk ⟨HKL.out.1, HUP.out _ HB9.out, HK.out.2.2.next ((drew_below wr).trans (HB9.out.mono (drew_below wr).size))⟩
      go_wp2
      go_roundw
      case rel => exact ⟨k + 1, rfl, HEND⟩
      case measure => (have := HKL.out.1; simp [Go.RowKit.intOf]; omega)
    · have HW := Hid.mk HK.out.2.1
      clear HK
      go_wp2
      go_loopw [18] (fun jv wr => ∃ j : Nat, jv = .int .i64 j ∧ Hid (j ≤ gn ∧ Below w3.heap.size w3 wr)) (fun jv _ => gn - (Go.RowKit.intOf jv).toNat)
      case atStart => exact ⟨0, rfl, Hid.mk ⟨Nat.zero_le _, HW.out⟩⟩
      case round =>
        obtain ⟨j, rfl, HJ⟩ := hrel
        clear HW
        have HC := Hid.mk (HF.out _ HJ.out.2)
        by_cases hjn : (j : Int) < (gn : Int)
        · have HJL : Hid (j < gn) := Hid.mk (by omega)
          have v1 : IntKind.i64.wrap ((j : Int) + 1) = ((j + 1 : Nat) : Int) := by have := HGN.out.2; rw [IntKind.wrap_i64]; omega
          have j0 : (0 : Int) ≤ (j : Int) := by omega
          have hd2 : decide (j < gn) = true := decide_eq_true HJL.out
          obtain ⟨gb, rfl, _⟩ := HC.out.2 j HJL.out
          have c0 := HC.out.1
          have c1 : wr.cell? ⟨gb, j * 3 + 2, none⟩ = some (.bool (G.dn j)) := by
            obtain ⟨gb', e, q⟩ := HC.out.2 j HJL.out
            cases e
            exact q
          have e9 : (⟨gb, 0, none⟩ : Addr).add (j * 3) = ⟨gb, j * 3, none⟩ := by rw [add_at]; simp
          have HDJ : Hid (Calls Try.prog 12 #[ptV g, .int .i64 (j : Nat)] wr.drew fun e W' => e = .returned (.bool (G.dn j)) ∧ W' = wr.drew) := Hid.mk (by
            have := pl_done HBo.out HR.out (j : Nat) (wf_small (n := 1000) ⟨by omega, by have := HGN.out.2; have := HJL.out; omega⟩ (by omega)) wr.drew (HJ.out.2.trans ((drew_below wr).mono HJ.out.2.size))
            rw [show doneP G (j : Nat) = G.dn j by have := HGN.out.1; have := HJL.out; simp [doneP]; omega] at this
            exact this)
          have hH : (fun W : World => W.cell? ⟨r, 0, none⟩ = some (.slice (some ⟨gb, 0, none⟩) gn cap) ∧ W.cell? ⟨gb, j * 3 + 2, none⟩ = some (.bool (G.dn j))) wr.drew := ⟨c0, c1⟩
          generalize G.dn j = q at HDJ hH
          have HEND : Hid (Below w3.heap.size w3 wr.drew) := Hid.mk (HJ.out.2.trans ((drew_below wr).mono HJ.out.2.size))
          clear c1 HC
          go_wp2
          refine wp_region_held_drew (S := fun W : World => W.cell? ⟨r, 0, none⟩ = some (.slice (some ⟨gb, 0, none⟩) gn cap) ∧ W.cell? ⟨gb, j * 3 + 2, none⟩ = some (.bool q)) (by kernel_rfl) hH (fun hH => ?_)
          change wpAnyH Try.prog Region.Mode.any _ _ _ 12 _ _ _

          refine takeH 0 161 (ptV g) rfl (by kernel_rfl) (by kernel_rfl) (by kernel_rfl) (by kernel_rfl) (fun _ _ _ h => h) (by kernel_rfl) (fun w hw => by kernel_rfl) hH ?_
          simp only [List.setIfInBounds_toArray, List.set_cons_zero, List.set_cons_succ]
          refine takeH 1 162 (.int .i64 j) rfl (by kernel_rfl) (by kernel_rfl) (by kernel_rfl) (by kernel_rfl) (fun _ _ _ h => h) (by kernel_rfl) (fun w hw => by kernel_rfl) hH ?_
          simp only [List.setIfInBounds_toArray, List.set_cons_zero, List.set_cons_succ]
          refine takeH 3 164 (.pointer (some ⟨r, 0, none⟩)) rfl (by kernel_rfl) (by kernel_rfl) (by kernel_rfl) (by kernel_rfl) (fun _ _ _ h => h) (by kernel_rfl) (fun w hw => by kernel_rfl) hH ?_
          simp only [List.setIfInBounds_toArray, List.set_cons_zero, List.set_cons_succ]
          refine takeH 4 165 (.pointer (some ⟨r, 0, none⟩)) rfl (by kernel_rfl) (by kernel_rfl) (by kernel_rfl) (by kernel_rfl) (fun _ _ _ h => h) (by kernel_rfl) (fun w hw => by go_simp) hH ?_
          simp only [List.setIfInBounds_toArray, List.set_cons_zero, List.set_cons_succ]
          refine takeH 5 166 (.pointer (some ⟨r, 0, none⟩)) rfl (by kernel_rfl) (by kernel_rfl) (by kernel_rfl) (by kernel_rfl) (fun _ _ _ h => h) (by kernel_rfl) (fun w hw => by go_simp) hH ?_
          simp only [List.setIfInBounds_toArray, List.set_cons_zero, List.set_cons_succ]
          refine takeH 6 167 (.slice (some ⟨gb, 0, none⟩) gn cap) rfl (by kernel_rfl) (by kernel_rfl) (by kernel_rfl) (by kernel_rfl) (fun _ _ _ h => h) (by kernel_rfl) (fun w hw => by ((try dsimp only at hw); obtain ⟨hw1, hw2⟩ := hw; go_simp)) hH ?_
          simp only [List.setIfInBounds_toArray, List.set_cons_zero, List.set_cons_succ]
          refine takeH 7 168 (.int .i64 j) rfl (by kernel_rfl) (by kernel_rfl) (by kernel_rfl) (by kernel_rfl) (fun _ _ _ h => h) (by kernel_rfl) (fun w hw => by kernel_rfl) hH ?_
          simp only [List.setIfInBounds_toArray, List.set_cons_zero, List.set_cons_succ]
          refine takeH 8 169 (.pointer (some ⟨gb, j * 3, none⟩)) rfl (by kernel_rfl) (by kernel_rfl) (by kernel_rfl) (by kernel_rfl) (fun _ _ _ h => h) (by kernel_rfl) (fun w hw => by go_simp) hH ?_
          simp only [List.setIfInBounds_toArray, List.set_cons_zero, List.set_cons_succ]
          refine takeH 9 170 (.pointer (some ⟨gb, j * 3 + 2, none⟩)) rfl (by kernel_rfl) (by kernel_rfl) (by kernel_rfl) (by kernel_rfl) (fun _ _ _ h => h) (by kernel_rfl) (fun w hw => by go_simp) hH ?_
          simp only [List.setIfInBounds_toArray, List.set_cons_zero, List.set_cons_succ]
          refine takeH 10 171 (.bool q) rfl (by kernel_rfl) (by kernel_rfl) (by kernel_rfl) (by kernel_rfl) (fun _ _ _ h => h) (by kernel_rfl) (fun w hw => by ((try dsimp only at hw); obtain ⟨hw1, hw2⟩ := hw; go_simp)) hH ?_
          simp only [List.setIfInBounds_toArray, List.set_cons_zero, List.set_cons_succ]
          refine stepH_call 2 163 rfl (by kernel_rfl) (by kernel_rfl) (by kernel_rfl) 12 #[.tmp 161, .tmp 162] #[26, 3] (by kernel_rfl) (enters_of Try.func12 (by kernel_rfl) rfl) #[ptV g, .int .i64 j] (by kernel_rfl) HDJ.out ?_
          rintro e w4 ⟨rfl, hw4⟩
          subst hw4
          refine ⟨_, rfl, hH, ?_⟩
          simp only [List.setIfInBounds_toArray, List.set_cons_zero, List.set_cons_succ]
          refine takeH 11 172 (.bool false) rfl (by kernel_rfl) (by kernel_rfl) (by kernel_rfl) (by kernel_rfl) (fun _ _ _ h => h) (by kernel_rfl) (fun w hw => by go_simp) hH ?_
          simp only [List.setIfInBounds_toArray, List.set_cons_zero, List.set_cons_succ]
          refine wpAnyH_done (by kernel_rfl) ?_ _
          go_wp2
          go_roundw
          case rel => exact ⟨j + 1, rfl, Hid.mk ⟨HJL.out, HEND.out⟩⟩
          case measure => (have := HJL.out; simp [Go.RowKit.intOf]; omega)
        · have c0 := HC.out.1
          have hd2 : decide (j < gn) = false := decide_eq_false (by omega)
          have HEND := Hid.mk (HBW.out _ HJ.out.2)
          clear HJ HC
          go_wp2
          go_ret
          exact ⟨rfl, HEND.out⟩
end Go.Proofs.Ythmbhcmicebcpaa
