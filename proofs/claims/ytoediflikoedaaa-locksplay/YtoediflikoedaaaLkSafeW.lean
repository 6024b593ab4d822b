/-
  The law LocksSafe.
-/
import Derived.Test.YtoediflikoedaaaLkSafe2
import Derived.Deep.Cut
import Derived.Deep.CutRange
import Derived.Deep.CutBlock
namespace Go.Proofs.Ytoediflikoedaaa
open Go Go.Proofs Go.RowKit Go.Shelf
attribute [local go_sem] Oper.semAt_some
/-- A call as it was handed over. -/
structure ActV where
  way : Int
  lk : Lk
instance : Inhabited ActV := ⟨⟨0, Lk.zero⟩⟩
/-- A row of calls that came in. -/
def ActsAt (W : World) (ao : Option Addr) (n : Nat) (A : Nat → ActV) : Prop :=
  0 < n → ∃ ab off, ao = some ⟨ab, off, none⟩ ∧ ab < W.heap.size ∧ ∀ j, j < n → W.cell? ⟨ab, off + j * 4, none⟩ = some (.int .i64 (A j).way) ∧ W.cell? ⟨ab, off + j * 4 + 1, none⟩ = some (.int .i64 (A j).lk.th) ∧ W.cell? ⟨ab, off + j * 4 + 2, none⟩ = some (.int .i64 (A j).lk.tg) ∧ W.cell? ⟨ab, off + j * 4 + 3, none⟩ = some (.bool (A j).lk.al) ∧ (A j).lk.wf
theorem acts_at {W W' : World} {ao : Option Addr} {n : Nat} {A : Nat → ActV} (h : ActsAt W ao n A) (hB : Below W.heap.size W W') {j : Nat} (hj : j < n) : ∃ ab off, ao = some ⟨ab, off, none⟩ ∧ ab < W.heap.size ∧ W'.cell? ⟨ab, off + j * 4, none⟩ = some (.int .i64 (A j).way) ∧ W'.cell? ⟨ab, off + j * 4 + 1, none⟩ = some (.int .i64 (A j).lk.th) ∧ W'.cell? ⟨ab, off + j * 4 + 2, none⟩ = some (.int .i64 (A j).lk.tg) ∧ W'.cell? ⟨ab, off + j * 4 + 3, none⟩ = some (.bool (A j).lk.al) ∧ (A j).lk.wf := by
  obtain ⟨ab, off, e, hl, hc⟩ := h (by omega)
  obtain ⟨x0, x1, x2, x3, x4⟩ := hc j hj
  have hb := hB.block ab hl
  exact ⟨ab, off, e, hl, (World.cell?_of_block (w := W) hb).trans x0, (World.cell?_of_block (w := W) hb).trans x1, (World.cell?_of_block (w := W) hb).trans x2, (World.cell?_of_block (w := W) hb).trans x3, x4⟩
set_option maxRecDepth 100000 in
set_option maxHeartbeats 8000000 in
theorem safe_any (w : World) (ao : Option Addr) (n cc : Nat) (V : Nat → ActV) (T : Int) (hV : ActsAt w ao n V) (hn : n ≤ 9223372036854775807) : Calls Try.prog 4 #[.slice ao n cc, .int .i64 T] w fun e w' => e = .returned (.bool true) ∧ Below w.heap.size w w' := by
  have HAL := Hid.mk (alive_any w)
  by_cases h200 : (200 : Int) < (n : Int)
  · clear hV
    go_enter Try.func4, Try.ntmps4
    go_wp2_with (go_at_call 9; refine HAL.out.mono ?_; rintro e w1 ⟨rfl, hb1⟩; have HB1 := Hid.mk hb1; clear hb1 HAL)
    go_ret
    exact ⟨rfl, HB1.out⟩
  by_cases hb1 : T < 1
  · clear hV
    go_enter Try.func4, Try.ntmps4
    go_wp2_with (go_at_call 9; refine HAL.out.mono ?_; rintro e w1 ⟨rfl, hb1⟩; have HB1 := Hid.mk hb1; clear hb1 HAL)
    go_ret
    exact ⟨rfl, HB1.out⟩
  by_cases hb2 : 20 < T
  · clear hV
    go_enter Try.func4, Try.ntmps4
    go_wp2_with (go_at_call 9; refine HAL.out.mono ?_; rintro e w1 ⟨rfl, hb1⟩; have HB1 := Hid.mk hb1; clear hb1 HAL)
    go_ret
    exact ⟨rfl, HB1.out⟩
  have HX : Hid (n ≤ 200) := Hid.mk (by omega)
  have HV : Hid (∀ W j, Below w.heap.size w W → j < n → ∃ ab off, ao = some ⟨ab, off, none⟩ ∧ ab < w.heap.size ∧ W.cell? ⟨ab, off + j * 4, none⟩ = some (.int .i64 (V j).way) ∧ W.cell? ⟨ab, off + j * 4 + 1, none⟩ = some (.int .i64 (V j).lk.th) ∧ W.cell? ⟨ab, off + j * 4 + 2, none⟩ = some (.int .i64 (V j).lk.tg) ∧ W.cell? ⟨ab, off + j * 4 + 3, none⟩ = some (.bool (V j).lk.al) ∧ (V j).lk.wf) := Hid.mk (fun W j hB hj => acts_at hV hB hj)
  have HNEW : Hid (∀ W, Below w.heap.size w W → Calls Try.prog 10 #[] W fun e W' => ∃ t, e = .returned (ptV t) ∧ Hid (So w (W'.alloc (.cells (bo 10 noT) 4)) t 0 W'.heap.size noT Ta.none)) := Hid.mk (fun W hB => (o_new hB).mono (by
    rintro e W' ⟨t, rfl, HQ⟩
    refine ⟨t, rfl, Hid.mk ⟨HQ.out.side ((Only.refl (fun _ => False) W').alloc _) (fun _ q => q.elim) (fun k hk => ⟨by rw [hk]; simp, .inr (by rw [hk]; exact Nat.le_refl _)⟩), blk_new W' _, HQ.out.bel.size, fun x _ q => by cases q⟩⟩))
  have hmk : ∀ W : World, (Instr.makeSlice 45 (.int .i64 10) (.int .i64 10)).run Try.prog W = .ok (.slice (some ⟨W.heap.size, 0, none⟩) 10 10) (W.alloc (.cells (bo 10 noT) 4)) := fun W => makeb_run W 10 (by omega)
  clear hV hn
  go_enter Try.func4, Try.ntmps4
  go_wp2_with (first
    | (go_at_call 9; refine HAL.out.mono ?_; rintro e w1 ⟨rfl, hb1⟩; have HB1 := Hid.mk hb1; clear hb1 HAL)
    | (go_at_call 10; refine (HNEW.out _ HB1.out).mono ?_; rintro e w2 ⟨t, rfl, H2⟩; have hmk2 := hmk w2; clear HNEW HB1 hmk)
    | go_in)
  obtain ⟨g, hg⟩ : ∃ g, g = w2.heap.size := ⟨_, rfl⟩
  rw [← hg] at H2 ⊢
  clear hg hmk2
  go_loopw [8, 9, 10, 11, 12] (fun iv _ _ _ _ wr => ∃ i : Nat, iv = .int .i64 i ∧ Hid (i ≤ n ∧ ∃ N f A, N ≤ i ∧ So w wr t N g f A)) (fun iv _ _ _ _ _ => n - (Go.RowKit.intOf iv).toNat)
  case atStart => exact ⟨0, rfl, Hid.mk ⟨Nat.zero_le _, 0, _, _, Nat.le_refl _, H2.out⟩⟩
  case round =>
    obtain ⟨i, rfl, HI⟩ := hrel
    clear H2
    obtain ⟨hin, N, f, A, hNi, hS⟩ := HI.out
    have HS0 := Hid.mk hS
    have HNI := Hid.mk hNi
    have HB0 : Hid (Below w.heap.size w wr) := Hid.mk hS.o.bel
    clear HI hS hNi
    by_cases hlt : (i : Int) < (n : Int)
    · have u1 : IntKind.i64.wrap ((i : Int) + 1) = ((i + 1 : Nat) : Int) := by have := HX.out; rw [IntKind.wrap_i64]; omega
      have HLT : Hid (i < n) := Hid.mk (by omega)
      obtain ⟨ab, off0, rfl, habl, t0, t1, t2, t3, hwf⟩ := HV.out wr i HB0.out HLT.out
      have HAB : Hid (ab < wr.heap.size) := Hid.mk (Nat.lt_of_lt_of_le habl HB0.out.size)
      clear habl HV
      generalize (V i).way = wy at t0
      obtain ⟨l, hl⟩ : ∃ l, (V i).lk = l := ⟨_, rfl⟩
      rw [hl] at t1 t2 t3 hwf
      have HWF := Hid.mk hwf
      have HSF := Hid.mk (sf_start HS0.out l)
      have HBE : Hid (Below w.heap.size w (wr.alloc (lkO l))) := Hid.mk HSF.out.o.bel
      obtain ⟨th, tg, al⟩ := l
      simp only at t1 t2 t3
      clear hl hwf
      have z1 : (0 : Int) ≤ (i : Int) := by omega
      have z2 : ((i : Int)).toNat = i := by simp
      unfold lkO at HBE
      simp only at HBE
      by_cases q1 : th < 0
      · clear HSF HS0
        go_wp2
        go_ret
        exact ⟨rfl, HBE.out⟩
      by_cases q2 : T ≤ th
      · clear HSF HS0
        go_wp2
        go_ret
        exact ⟨rfl, HBE.out⟩
      by_cases q3 : tg < 0
      · clear HSF HS0
        go_wp2
        go_ret
        exact ⟨rfl, HBE.out⟩
      by_cases q4 : 9 < tg
      · clear HSF HS0
        go_wp2
        go_ret
        exact ⟨rfl, HBE.out⟩
      obtain ⟨x, rfl⟩ : ∃ x : Nat, tg = x := ⟨tg.toNat, by omega⟩
      have hx10 : x < 10 := by omega
      have HX10 := Hid.mk hx10
      have HXW : Hid ((Lit.int .i64 (x : Int)).wf = true) := Hid.mk (wf_of (by omega))
      obtain ⟨b, hb⟩ : ∃ b, b = wr.heap.size := ⟨_, rfl⟩
      obtain ⟨W1, hW1⟩ : ∃ W1, W1 = wr.alloc (.cells #[.int .i64 th, .int .i64 (x : Int), .bool al] 31) := ⟨_, rfl⟩
      have H1 : Hid (SfO w W1 t N g f b ⟨th, x, al⟩ (.slice none 0 0) [] A) := Hid.mk (by have := HSF.out; rw [hW1, hb]; exact this)
      have HC1 : Hid (W1.cell? ⟨ab, off0 + i * 4, none⟩ = some (.int .i64 wy)) := Hid.mk (by
        have e0 : W1.heap[ab]? = wr.heap[ab]? := by rw [hW1]; exact Below.heap_alloc _ _ _ HAB.out
        exact (World.cell?_of_block (w := wr) e0).trans t0)
      have HS9 : Hid (∀ x : Nat, x < 10 → f x = true → (holdL (A.held x)).length ≤ 1) := Hid.mk HS0.out.one
      clear HSF HBE HS0
      go_upto_region 12 with fail
      rw [← hW1, ← hb]
      clear hW1 hb t0 t1 t2 t3
      have t0 := HC1.out
      obtain ⟨k0, k1, k2⟩ := sf_box H1.out
      simp only at k0 k1 k2
      go_upto_if 67 with fail
      go_cut [10, 11] from 66 to 81 (fun v _ W => ∃ ao m c L A' N', v = .slice ao m c ∧ Hid (L.length = m ∧ N' ≤ i + 1 ∧ SfO w W t N' g f b ⟨th, x, al⟩ (.slice ao m c) L A' ∧ Gr A A' L x))
      case first =>
        by_cases hw0 : wy = 0
        · subst hw0
          have HASK := Hid.mk (sf_ask H1.out HWF.out (by have := HNI.out; have := HX.out; have := HLT.out; omega))
          unfold lkV at HASK
          simp only at HASK
          cases hask : A.askB ⟨th, x, al⟩ with
          | true =>
            have HGR := Hid.mk (gr_yes HWF.out hask)
            rw [hask] at HASK
            clear hask H1
            go_wp2_with (first
              | (go_at_call 11; refine HASK.out.mono ?_; rintro e w3 ⟨rfl, H3⟩; obtain ⟨k3, k4, k5⟩ := sf_box H3.out; obtain ⟨ao4, c4, W4, p4, H4⟩ := sf_add H3.out; simp only at k3 k4 k5 p4; have HAP := Hid.mk p4; clear p4 HASK H3)
              | (at_builtin; refine wpList_append_known rfl _ _ _ rfl _ _ _ _ rfl rfl HAP.out ?_; simp only [Act.put, List.setIfInBounds_toArray, List.set_cons_zero, List.set_cons_succ])
              | go_in)
            go_meet
            case rel => exact ⟨ao4, 1, c4, _, _, _, rfl, Hid.mk ⟨rfl, by have := HNI.out; omega, H4.out, HGR.out⟩⟩
          | false =>
            have HGR := Hid.mk (gr_no hask)
            rw [hask] at HASK
            clear hask H1
            go_wp2_with (first
              | (go_at_call 11; refine HASK.out.mono ?_; rintro e w3 ⟨rfl, H3⟩; clear HASK)
              | go_in)
            go_meet
            case rel => exact ⟨none, 0, 0, [], _, _, rfl, Hid.mk ⟨rfl, by have := HNI.out; omega, H3.out, HGR.out⟩⟩
        · have hw1 : (wy == 0) = false := by simpa using hw0
          have HREL := Hid.mk (sf_rel H1.out th x HWF.out.1 HXW.out (by have := HNI.out; have := HX.out; have := HLT.out; omega))
          have HGR := Hid.mk (gr_rel H1.out.o.ok th x)
          clear H1
          go_wp2_with (first
            | (go_at_call 14; refine HREL.out.mono ?_; rintro e w3 ⟨ao3, c3, rfl, H3⟩; clear HREL)
            | go_in)
          go_meet
          case rel => exact ⟨ao3, _, c3, _, _, _, rfl, Hid.mk ⟨rfl, by have := HNI.out; omega, H3.out, HGR.out⟩⟩
      case rest =>
      obtain ⟨ag, m, c, L, A', N', rfl, HG⟩ := hcut
      clear H1 HC1 t0 k0 k1 k2
      have HN' : Hid (N' ≤ i + 1 ∧ L.length = m) := Hid.mk ⟨HG.out.2.1, HG.out.1⟩
      have H1 := Hid.mk HG.out.2.2.1
      have HGR := Hid.mk HG.out.2.2.2
      clear HG
      have HHD : Hid (∀ W f', SfO w W t N' g f' b ⟨th, x, al⟩ (.slice ag m c) L A' → Calls Try.prog 18 #[ptV t, .int .i64 (x : Int)] W fun e W' => ∃ ao c', e = .returned (.slice ao (holdL (A'.held x)).length c') ∧ Hid (SfO w W' t N' g f' b ⟨th, x, al⟩ (.slice ag m c) L A')) := Hid.mk (fun W f' h => sf_holders h x HXW.out (by have := HN'.out; have := HX.out; have := HLT.out; omega))
      have HMX : Hid (∀ f' : Nat → Bool, (∀ y, y ≠ x → f' y = f y) → (m = 0 → f' x = true → f x = true) → (0 < m → f' x = true → ∃ l ∈ L, l.al = true) → ∀ y : Nat, y < 10 → f' y = true → (holdL (A'.held y)).length ≤ 1) := Hid.mk (fun f' h1 h2 h3 y hy hf => by
        have hg := HGR.out
        by_cases e : y = x
        · subst e
          rcases Nat.eq_zero_or_pos m with q | q
          · have hL : L = [] := List.eq_nil_of_length_eq_zero (by rw [HN'.out.2]; exact q)
            exact Nat.le_trans (hg.non hL) (HS9.out y hy (h2 q hf))
          · obtain ⟨l, hl, ha⟩ := h3 q hf
            exact hg.one l hl ha
        · rw [hg.oth y (by omega)]
          exact HS9.out y hy (by rw [← h1 y e]; exact hf))
      have HGT : Hid (∀ l ∈ L, A'.holds l.th x = true ∧ l.tg = x ∧ l.wf) := Hid.mk HGR.out.got
      clear HGR HS9
      obtain ⟨hl, hhl⟩ : ∃ hl, hl = (holdL (A'.held x)).length := ⟨_, rfl⟩
      rw [← hhl] at HHD
      have HHL := Hid.mk hhl
      clear hhl
      have hgx : (x : Int) < 10 := by omega
      have e9 : (⟨g, 0, none⟩ : Addr).add (x * 1) = ⟨g, x, none⟩ := by rw [add_at]; simp
      obtain ⟨k0, k1, k2⟩ := sf_box H1.out
      simp only at k0 k1 k2
      go_upto_if 89 with (first
        | (go_at_call 18; refine (HHD.out _ _ H1.out).mono ?_; rintro e w4 ⟨ao4, c4, rfl, H4⟩)
        | go_in)
      clear k0 k1 k2
      obtain ⟨k0, k1, k2⟩ := sf_box H4.out
      obtain ⟨k3, k4⟩ := sf_row H4.out HX10.out
      simp only at k0 k1 k2
      go_cut [11] from 86 to 93 (fun _ W => Hid (∃ f', SfO w W t N' g f' b ⟨th, x, al⟩ (.slice ag m c) L A' ∧ (∀ y, y ≠ x → f' y = f y) ∧ (f' x = true → f x = true)))
      case first =>
        by_cases hq : hl = m
        · subst hq
          have HST := Hid.mk (sf_set H4.out x false)
          go_wp2
          go_meet
          case rel => exact Hid.mk ⟨_, HST.out, fun y hy => by simp [updT, hy], fun q => by simp [updT] at q⟩
        · have hq1 : ((hl : Int) == (m : Int)) = false := by rw [beq_eq_false_iff_ne]; omega
          have hq2 : ¬ (hl : Int) = (m : Int) := by omega
          go_wp2
          go_meet
          case rel => exact Hid.mk ⟨_, H4.out, fun y hy => rfl, fun q => q⟩
      case rest =>
      have H5 := hcut
      clear hcut H4 H1 k0 k1 k2 k3 k4
      go_wp2
      go_loopw [12] (fun kv wr => ∃ k : Nat, kv = .int .i64 k ∧ Hid (k ≤ m ∧ ∃ f', SfO w wr t N' g f' b ⟨th, x, al⟩ (.slice ag m c) L A' ∧ (∀ y, y ≠ x → f' y = f y) ∧ (k = 0 → f' x = true → f x = true) ∧ (0 < k → f' x = true → ∃ l ∈ L, l.al = true))) (fun kv _ => m - (Go.RowKit.intOf kv).toNat)
      case atStart =>
        obtain ⟨f', a1, a2, a3⟩ := H5.out
        exact ⟨0, rfl, Hid.mk ⟨Nat.zero_le _, f', a1, a2, fun _ => a3, fun q => absurd q (Nat.lt_irrefl 0)⟩⟩
      case round =>
        obtain ⟨k, rfl, HK⟩ := hrel
        clear H5
        obtain ⟨hkm, f', a1, a2, a3, a4⟩ := HK.out
        have H6 := Hid.mk a1
        have H7 : Hid ((∀ y, y ≠ x → f' y = f y) ∧ (k = 0 → f' x = true → f x = true) ∧ (0 < k → f' x = true → ∃ l ∈ L, l.al = true)) := Hid.mk ⟨a2, a3, a4⟩
        clear HK a1 a2 a3 a4
        by_cases hkl : (k : Int) < (m : Int)
        · have v1 : IntKind.i64.wrap ((k : Int) + 1) = ((k + 1 : Nat) : Int) := by
            have := HN'.out
            have hcap := sf_len H6.out
            rw [IntKind.wrap_i64]; omega
          have HKL : Hid (k < m) := Hid.mk (by omega)
          obtain ⟨hLm, gg, off, rfl, _, _, _, _⟩ := sf_at H6.out HKL.out
          obtain ⟨y, hy⟩ : ∃ y, y = L.getD k Lk.zero := ⟨_, rfl⟩
          have hym : y ∈ L := by
            rw [hy, List.getD, List.getElem?_eq_getElem (by omega)]
            exact List.getElem_mem _
          have HY : Hid (y ∈ L ∧ A'.holds y.th x = true ∧ y.tg = x ∧ y.wf) := Hid.mk ⟨hym, HGT.out y hym⟩
          have HCL : Hid (∀ W f', SfO w W t N' g f' b ⟨th, x, al⟩ (.slice (some ⟨gg, off, none⟩) m c) L A' → W.cell? ⟨b, 1, none⟩ = some (.int .i64 (x : Int)) ∧ W.cell? ⟨gg, off + k * 3, none⟩ = some (.int .i64 y.th) ∧ W.cell? ⟨gg, off + k * 3 + 1, none⟩ = some (.int .i64 (x : Int)) ∧ W.cell? ⟨gg, off + k * 3 + 2, none⟩ = some (.bool y.al)) := Hid.mk (fun W f' h => by
            obtain ⟨b1, b2, b3⟩ := sf_cells h HKL.out
            rw [← hy] at b1 b2 b3
            rw [HY.out.2.2.1] at b2
            exact ⟨(sf_box h).2.1, b1, b2, b3⟩)
          have HW1 := Hid.mk (H6.out.grow (drew_below wr))
          have HW2 := Hid.mk (sf_set HW1.out x y.al)
          have HHO : Hid (Calls Try.prog 19 #[ptV t, .int .i64 y.th, .int .i64 (x : Int)] (wr.drew.setCell ⟨g, x, none⟩ (.bool y.al)).drew fun e W' => e = .returned (.bool true) ∧ Hid (SfO w W' t N' g (updT f' x y.al) b ⟨th, x, al⟩ (.slice (some ⟨gg, off, none⟩) m c) L A')) := Hid.mk (by
            have h := sf_holds (HW2.out.grow (drew_below _)) y.th x HY.out.2.2.2.1 HXW.out
            rw [HY.out.2.1] at h
            exact h)
          have e8 : (⟨gg, off, none⟩ : Addr).add (k * 3) = ⟨gg, off + k * 3, none⟩ := by rw [add_at]
          obtain ⟨s1, s2⟩ := sf_row HW1.out HX10.out
          have S1 := HCL.out _ _ HW1.out
          have S2 := HCL.out _ _ HW2.out
          have S3 := HCL.out _ _ (HW2.out.grow (drew_below _))
          have hH : (fun W : World => W.cell? ⟨b, 1, none⟩ = some (.int .i64 (x : Int)) ∧ W.cell? ⟨gg, off + k * 3 + 2, none⟩ = some (.bool y.al) ∧ True) wr.drew := ⟨S1.1, S1.2.2.2, trivial⟩
          have HS1 : Hid ((fun W : World => W.cell? ⟨b, 1, none⟩ = some (.int .i64 (x : Int)) ∧ W.cell? ⟨gg, off + k * 3 + 2, none⟩ = some (.bool y.al) ∧ True) (wr.drew.setCell ⟨g, x, none⟩ (.bool y.al))) := Hid.mk ⟨S2.1, S2.2.2.2, trivial⟩
          have HH2 : Hid ((fun W : World => W.cell? ⟨b, 1, none⟩ = some (.int .i64 (x : Int)) ∧ W.cell? ⟨gg, off + k * 3, none⟩ = some (.int .i64 y.th) ∧ W.cell? ⟨gg, off + k * 3 + 1, none⟩ = some (.int .i64 (x : Int))) (wr.drew.setCell ⟨g, x, none⟩ (.bool y.al)).drew) := Hid.mk ⟨S3.1, S3.2.1, S3.2.2.1⟩
          have HS5 : Hid (∀ W5, SfO w W5 t N' g (updT f' x y.al) b ⟨th, x, al⟩ (.slice (some ⟨gg, off, none⟩) m c) L A' → (fun W : World => W.cell? ⟨b, 1, none⟩ = some (.int .i64 (x : Int)) ∧ W.cell? ⟨gg, off + k * 3, none⟩ = some (.int .i64 y.th) ∧ W.cell? ⟨gg, off + k * 3 + 1, none⟩ = some (.int .i64 (x : Int))) W5) := Hid.mk (fun W5 h => by
            have := HCL.out W5 _ h
            exact ⟨this.1, this.2.1, this.2.2.1⟩)
          clear hy hym hLm S1 S2 S3 H6 HCL
          go_wp2
          refine wp_region_held_drew (S := fun W : World => W.cell? ⟨b, 1, none⟩ = some (.int .i64 (x : Int)) ∧ W.cell? ⟨gg, off + k * 3 + 2, none⟩ = some (.bool y.al) ∧ True) (by kernel_rfl) hH (fun hH => ?_)
          change wpAnyH Try.prog Region.Mode.any _ _ _ 10 _ _ _
          refine takeH 0 100 (.slice (some ⟨g, 0, none⟩) 10 10) rfl (by kernel_rfl) (by kernel_rfl) (by kernel_rfl) (by kernel_rfl) (fun _ _ _ h => h) (by kernel_rfl) (fun w hw => by kernel_rfl) hH ?_
          simp only [List.setIfInBounds_toArray, List.set_cons_zero, List.set_cons_succ]
          refine takeH 1 101 (.pointer (some ⟨b, 1, none⟩)) rfl (by kernel_rfl) (by kernel_rfl) (by kernel_rfl) (by kernel_rfl) (fun _ _ _ h => h) (by kernel_rfl) (fun w hw => by go_simp) hH ?_
          simp only [List.setIfInBounds_toArray, List.set_cons_zero, List.set_cons_succ]
          refine takeH 2 102 (.int .i64 (x : Int)) rfl (by kernel_rfl) (by kernel_rfl) (by kernel_rfl) (by kernel_rfl) (fun _ _ _ h => h) (by kernel_rfl) (fun w hw => by (try dsimp only at hw); obtain ⟨hw1, hw2, hw3⟩ := hw; go_simp) hH ?_
          simp only [List.setIfInBounds_toArray, List.set_cons_zero, List.set_cons_succ]
          refine takeH 3 103 (.slice (some ⟨gg, off, none⟩) m c) rfl (by kernel_rfl) (by kernel_rfl) (by kernel_rfl) (by kernel_rfl) (fun _ _ _ h => h) (by kernel_rfl) (fun w hw => by kernel_rfl) hH ?_
          simp only [List.setIfInBounds_toArray, List.set_cons_zero, List.set_cons_succ]
          refine takeH 4 104 (.int .i64 k) rfl (by kernel_rfl) (by kernel_rfl) (by kernel_rfl) (by kernel_rfl) (fun _ _ _ h => h) (by kernel_rfl) (fun w hw => by kernel_rfl) hH ?_
          simp only [List.setIfInBounds_toArray, List.set_cons_zero, List.set_cons_succ]
          refine takeH 5 105 (.pointer (some ⟨gg, off + k * 3, none⟩)) rfl (by kernel_rfl) (by kernel_rfl) (by kernel_rfl) (by kernel_rfl) (fun _ _ _ h => h) (by kernel_rfl) (fun w hw => by go_simp) hH ?_
          simp only [List.setIfInBounds_toArray, List.set_cons_zero, List.set_cons_succ]
          refine takeH 6 106 (.pointer (some ⟨gg, off + k * 3 + 2, none⟩)) rfl (by kernel_rfl) (by kernel_rfl) (by kernel_rfl) (by kernel_rfl) (fun _ _ _ h => h) (by kernel_rfl) (fun w hw => by go_simp) hH ?_
          simp only [List.setIfInBounds_toArray, List.set_cons_zero, List.set_cons_succ]
          refine takeH 7 107 (.bool y.al) rfl (by kernel_rfl) (by kernel_rfl) (by kernel_rfl) (by kernel_rfl) (fun _ _ _ h => h) (by kernel_rfl) (fun w hw => by (try dsimp only at hw); obtain ⟨hw1, hw2, hw3⟩ := hw; go_simp) hH ?_
          simp only [List.setIfInBounds_toArray, List.set_cons_zero, List.set_cons_succ]
          refine takeH 8 108 (.pointer (some ⟨g, x, none⟩)) rfl (by kernel_rfl) (by kernel_rfl) (by kernel_rfl) (by kernel_rfl) (fun _ _ _ h => h) (by kernel_rfl) (fun w hw => by go_simp) hH ?_
          simp only [List.setIfInBounds_toArray, List.set_cons_zero, List.set_cons_succ]
          refine stepH_one 9 (by kernel_rfl) ?_
          refine opH_store 9 (wr.drew.setCell ⟨g, x, none⟩ (.bool y.al)) rfl (by kernel_rfl) (by kernel_rfl) (by go_simp) HS1.out ?_
          refine wpAnyH_done (by kernel_rfl) ?_ _
          go_wp2
          have hH := HH2.out
          refine wp_region_held_drew (S := fun W : World => W.cell? ⟨b, 1, none⟩ = some (.int .i64 (x : Int)) ∧ W.cell? ⟨gg, off + k * 3, none⟩ = some (.int .i64 y.th) ∧ W.cell? ⟨gg, off + k * 3 + 1, none⟩ = some (.int .i64 (x : Int))) (by kernel_rfl) hH (fun hH => ?_)
          change wpAnyH Try.prog Region.Mode.any _ _ _ 20 _ _ _
          refine takeH 0 109 (ptV t) rfl (by kernel_rfl) (by kernel_rfl) (by kernel_rfl) (by kernel_rfl) (fun _ _ _ h => h) (by kernel_rfl) (fun w hw => by kernel_rfl) hH ?_
          simp only [List.setIfInBounds_toArray, List.set_cons_zero, List.set_cons_succ]
          refine takeH 1 110 (.slice (some ⟨gg, off, none⟩) m c) rfl (by kernel_rfl) (by kernel_rfl) (by kernel_rfl) (by kernel_rfl) (fun _ _ _ h => h) (by kernel_rfl) (fun w hw => by kernel_rfl) hH ?_
          simp only [List.setIfInBounds_toArray, List.set_cons_zero, List.set_cons_succ]
          refine takeH 2 111 (.int .i64 k) rfl (by kernel_rfl) (by kernel_rfl) (by kernel_rfl) (by kernel_rfl) (fun _ _ _ h => h) (by kernel_rfl) (fun w hw => by kernel_rfl) hH ?_
          simp only [List.setIfInBounds_toArray, List.set_cons_zero, List.set_cons_succ]
          refine takeH 3 112 (.pointer (some ⟨gg, off + k * 3, none⟩)) rfl (by kernel_rfl) (by kernel_rfl) (by kernel_rfl) (by kernel_rfl) (fun _ _ _ h => h) (by kernel_rfl) (fun w hw => by go_simp) hH ?_
          simp only [List.setIfInBounds_toArray, List.set_cons_zero, List.set_cons_succ]
          refine takeH 4 113 (.pointer (some ⟨gg, off + k * 3, none⟩)) rfl (by kernel_rfl) (by kernel_rfl) (by kernel_rfl) (by kernel_rfl) (fun _ _ _ h => h) (by kernel_rfl) (fun w hw => by go_simp) hH ?_
          simp only [List.setIfInBounds_toArray, List.set_cons_zero, List.set_cons_succ]
          refine takeH 5 114 (.int .i64 y.th) rfl (by kernel_rfl) (by kernel_rfl) (by kernel_rfl) (by kernel_rfl) (fun _ _ _ h => h) (by kernel_rfl) (fun w hw => by (try dsimp only at hw); obtain ⟨hw1, hw2, hw3⟩ := hw; go_simp) hH ?_
          simp only [List.setIfInBounds_toArray, List.set_cons_zero, List.set_cons_succ]
          refine takeH 6 115 (.pointer (some ⟨b, 1, none⟩)) rfl (by kernel_rfl) (by kernel_rfl) (by kernel_rfl) (by kernel_rfl) (fun _ _ _ h => h) (by kernel_rfl) (fun w hw => by go_simp) hH ?_
          simp only [List.setIfInBounds_toArray, List.set_cons_zero, List.set_cons_succ]
          refine takeH 7 116 (.int .i64 (x : Int)) rfl (by kernel_rfl) (by kernel_rfl) (by kernel_rfl) (by kernel_rfl) (fun _ _ _ h => h) (by kernel_rfl) (fun w hw => by (try dsimp only at hw); obtain ⟨hw1, hw2, hw3⟩ := hw; go_simp) hH ?_
          simp only [List.setIfInBounds_toArray, List.set_cons_zero, List.set_cons_succ]
          refine stepH_call 8 117 rfl (by kernel_rfl) (by kernel_rfl) (by kernel_rfl) 19 #[.tmp 109, .tmp 114, .tmp 116] #[24, 3, 3] (by kernel_rfl) (enters_of Try.func19 (by kernel_rfl) rfl) #[ptV t, .int .i64 y.th, .int .i64 (x : Int)] (by kernel_rfl) HHO.out ?_
          rintro e w5 ⟨rfl, H5⟩
          have hH := HS5.out w5 H5.out
          refine ⟨_, rfl, hH, ?_⟩
          simp only [List.setIfInBounds_toArray, List.set_cons_zero, List.set_cons_succ]
          refine takeH 9 118 (.bool false) rfl (by kernel_rfl) (by kernel_rfl) (by kernel_rfl) (by kernel_rfl) (fun _ _ _ h => h) (by kernel_rfl) (fun w hw => by go_simp) hH ?_
          simp only [List.setIfInBounds_toArray, List.set_cons_zero, List.set_cons_succ]
          refine takeH 10 119 (.bool false) rfl (by kernel_rfl) (by kernel_rfl) (by kernel_rfl) (by kernel_rfl) (fun _ _ _ h => h) (by kernel_rfl) (fun w hw => by kernel_rfl) hH ?_
          simp only [List.setIfInBounds_toArray, List.set_cons_zero, List.set_cons_succ]
          refine takeH 11 120 (.slice (some ⟨gg, off, none⟩) m c) rfl (by kernel_rfl) (by kernel_rfl) (by kernel_rfl) (by kernel_rfl) (fun _ _ _ h => h) (by kernel_rfl) (fun w hw => by kernel_rfl) hH ?_
          simp only [List.setIfInBounds_toArray, List.set_cons_zero, List.set_cons_succ]
          refine takeH 12 121 (.int .i64 k) rfl (by kernel_rfl) (by kernel_rfl) (by kernel_rfl) (by kernel_rfl) (fun _ _ _ h => h) (by kernel_rfl) (fun w hw => by kernel_rfl) hH ?_
          simp only [List.setIfInBounds_toArray, List.set_cons_zero, List.set_cons_succ]
          refine takeH 13 122 (.pointer (some ⟨gg, off + k * 3, none⟩)) rfl (by kernel_rfl) (by kernel_rfl) (by kernel_rfl) (by kernel_rfl) (fun _ _ _ h => h) (by kernel_rfl) (fun w hw => by go_simp) hH ?_
          simp only [List.setIfInBounds_toArray, List.set_cons_zero, List.set_cons_succ]
          refine takeH 14 123 (.pointer (some ⟨gg, off + k * 3 + 1, none⟩)) rfl (by kernel_rfl) (by kernel_rfl) (by kernel_rfl) (by kernel_rfl) (fun _ _ _ h => h) (by kernel_rfl) (fun w hw => by go_simp) hH ?_
          simp only [List.setIfInBounds_toArray, List.set_cons_zero, List.set_cons_succ]
          refine takeH 15 124 (.int .i64 (x : Int)) rfl (by kernel_rfl) (by kernel_rfl) (by kernel_rfl) (by kernel_rfl) (fun _ _ _ h => h) (by kernel_rfl) (fun w hw => by (try dsimp only at hw); obtain ⟨hw1, hw2, hw3⟩ := hw; go_simp) hH ?_
          simp only [List.setIfInBounds_toArray, List.set_cons_zero, List.set_cons_succ]
          refine takeH 16 125 (.pointer (some ⟨b, 1, none⟩)) rfl (by kernel_rfl) (by kernel_rfl) (by kernel_rfl) (by kernel_rfl) (fun _ _ _ h => h) (by kernel_rfl) (fun w hw => by go_simp) hH ?_
          simp only [List.setIfInBounds_toArray, List.set_cons_zero, List.set_cons_succ]
          refine takeH 17 126 (.int .i64 (x : Int)) rfl (by kernel_rfl) (by kernel_rfl) (by kernel_rfl) (by kernel_rfl) (fun _ _ _ h => h) (by kernel_rfl) (fun w hw => by (try dsimp only at hw); obtain ⟨hw1, hw2, hw3⟩ := hw; go_simp) hH ?_
          simp only [List.setIfInBounds_toArray, List.set_cons_zero, List.set_cons_succ]
          refine takeH 18 127 (.bool false) rfl (by kernel_rfl) (by kernel_rfl) (by kernel_rfl) (by kernel_rfl) (fun _ _ _ h => h) (by kernel_rfl) (fun w hw => by go_simp) hH ?_
          simp only [List.setIfInBounds_toArray, List.set_cons_zero, List.set_cons_succ]
          refine takeH 19 128 (.bool false) rfl (by kernel_rfl) (by kernel_rfl) (by kernel_rfl) (by kernel_rfl) (fun _ _ _ h => h) (by kernel_rfl) (fun w hw => by kernel_rfl) hH ?_
          simp only [List.setIfInBounds_toArray, List.set_cons_zero, List.set_cons_succ]
          refine wpAnyH_done (by kernel_rfl) ?_ _
          go_wp2
          go_roundw
          case rel => exact ⟨k + 1, rfl, Hid.mk ⟨HKL.out, _, H5.out, fun z hz => by simp [updT, hz]; exact H7.out.1 z hz, fun q => by omega, fun _ q => ⟨y, HY.out.1, by simpa [updT] using q⟩⟩⟩
          case measure => (have := HKL.out; simp [Go.RowKit.intOf]; omega)
        · obtain rfl : k = m := by omega
          have HM1 := Hid.mk (HMX.out f' H7.out.1 H7.out.2.1 H7.out.2.2)
          obtain ⟨k0, k1, k2⟩ := sf_box H6.out
          obtain ⟨k3, k4⟩ := sf_row H6.out HX10.out
          simp only at k0 k1 k2
          cases hfx : f' x with
          | true =>
            have hl1 : ¬ (1 : Int) < (hl : Int) := by
              have := HM1.out x HX10.out hfx
              have := HHL.out
              omega
            rw [hfx] at k3
            clear hfx
            go_wp2_with (first
              | (go_at_call 18; refine (HHD.out _ _ H6.out).mono ?_; rintro e w7 ⟨ao7, c7, rfl, H8⟩)
              | go_in)
            go_roundw
            case rel => exact ⟨i + 1, rfl, Hid.mk ⟨HLT.out, N', f', A', HN'.out.1, sf_end H8.out HM1.out⟩⟩
            case measure => (have := HLT.out; simp [Go.RowKit.intOf]; omega)
          | false =>
            rw [hfx] at k3
            clear hfx
            go_wp2
            go_roundw
            case rel => exact ⟨i + 1, rfl, Hid.mk ⟨HLT.out, N', f', A', HN'.out.1, sf_end H6.out HM1.out⟩⟩
            case measure => (have := HLT.out; simp [Go.RowKit.intOf]; omega)
    · obtain rfl : i = n := by omega
      clear HV HS0
      go_wp2
      go_ret
      exact ⟨rfl, HB0.out⟩
end Go.Proofs.Ytoediflikoedaaa
