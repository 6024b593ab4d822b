/-
  The reference's Ask.
-/
import Derived.Test.YtoediflikoedaaaLayRa
import Derived.BigQuiet
namespace Go.Proofs.Ytoediflikoedaaa
open Go Go.Proofs Go.RowKit Go.Shelf
attribute [local go_sem] Oper.semAt_some
set_option maxRecDepth 100000 in
set_option maxHeartbeats 8000000 in
theorem rask_any {F : Nat → Prop} {w : World} {r : Nat} {R : Rf} (h : RfAt F w r R) (hF : ∀ k, F k → k < w.heap.size) (l : Lk) (hn : R.held.length ≤ 1000000) (hm : R.row.length ≤ 1000000) : Calls Try.prog 12 #[ptV r, lkV l] w fun e w' => e = .returned (.bool (R.askB l)) ∧ Hid (RfAt (Grown F w) w' r (R.ask l) ∧ Only F w w') := by
  obtain ⟨w0, hw0⟩ : ∃ w0, w0 = w.alloc (.cells #[.int .i64 l.th, .int .i64 l.tg, .bool l.al] 31) := ⟨_, rfl⟩
  have hB : Below w.heap.size w w0 := by rw [hw0]; exact (Below.refl _ w).alloc (Nat.le_refl _) _
  have hbx : w0.heap[w.heap.size]? = some (lkO l) := by rw [hw0]; exact blk_new w _
  obtain ⟨b, hb⟩ : ∃ b, b = w.heap.size := ⟨_, rfl⟩
  rw [← hb] at hbx
  have HC : Hid (∀ W, Below w0.heap.size w0 W → RfAt F W r R ∧ W.heap[b]? = some (lkO l) ∧ Below w.heap.size w W) := Hid.mk (fun W hW => ⟨(h.below hB).below hW, (hW.block b (lt_of_block hbx)).trans hbx, hB.trans (hW.mono hB.size)⟩)
  have HBF : Hid (¬ F b) := Hid.mk (fun q => by have := hF b q; omega)
  have HG : Hid (∀ W W' R', Below w.heap.size w W → RfAt (Grown F W) W' r R' → Only F W W' → RfAt (Grown F w) W' r R' ∧ Only F w W') := Hid.mk (fun W W' R' q1 q2 q3 => ⟨q2.mono (fun k _ hk => hk.imp id (fun q => Nat.le_trans q1.size q)), (Only.of_new F q1).trans q3 (fun i hi => .inl hi)⟩)
  have HCELL : Hid (∀ W, Below w0.heap.size w0 W → W.cell? ⟨b, 0, none⟩ = some (.int .i64 l.th) ∧ W.cell? ⟨b, 1, none⟩ = some (.int .i64 l.tg) ∧ W.cell? ⟨b, 2, none⟩ = some (.bool l.al)) := Hid.mk (fun W hW => by
    have := (HC.out W hW).2.1
    unfold lkO at this
    refine ⟨?_, ?_, ?_⟩ <;> (rw [blk_cell this]; rfl))
  have HW := Hid.mk (rwaits_any (HC.out w0 (Below.refl _ _)).1 l.th)
  have HH : Hid (∀ W, Below w0.heap.size w0 W → Calls Try.prog 20 #[ptV r, .int .i64 l.th, .int .i64 l.tg] W fun e w' => e = .returned (.bool (hasB R.held l.th l.tg)) ∧ w' = W) := Hid.mk (fun W hW => rholds_any (HC.out W hW).1 l.th l.tg)
  have HBS : Hid (∀ W, Below w0.heap.size w0 W → Calls Try.prog 29 #[ptV r, .agg #[.int .i64 l.th, .int .i64 l.tg, .bool l.al]] W fun e w' => e = .returned (.bool (besR R.held l)) ∧ Below W.heap.size W w') := Hid.mk (fun W hW => rbeside_any (HC.out W hW).1 l)
  have HNN := Hid.mk (And.intro hn hm)
  obtain ⟨c0, c1, c2⟩ := HCELL.out w0 (Below.refl _ _)
  obtain ⟨x1, hx1⟩ : ∃ x, x = (R.waits l.th) := ⟨_, rfl⟩
  obtain ⟨x2, hx2⟩ : ∃ x, x = hasB R.held l.th l.tg := ⟨_, rfl⟩
  have HX : Hid (x1 = R.waits l.th ∧ x2 = hasB R.held l.th l.tg) := Hid.mk ⟨hx1, hx2⟩
  rw [← hx1] at HW
  rw [← hx2] at HH
  obtain ⟨res, hres⟩ : ∃ res, res = R.askB l := ⟨_, rfl⟩
  rw [← hres]
  have HR := Hid.mk hres
  obtain ⟨R2, hR2⟩ : ∃ R2, R2 = R.ask l := ⟨_, rfl⟩
  rw [← hR2]
  have HR2 := Hid.mk hR2
  clear h hF hB hbx hx1 hx2 hres hR2 hn hm
  have HEND : Hid (∀ W, Below w0.heap.size w0 W → RfAt (Grown F w) W r R ∧ Only F w W) := Hid.mk (fun W hW => ⟨(HC.out W hW).1.mono (fun k _ hk => .inl hk), Only.of_new F (HC.out W hW).2.2⟩)
  obtain ⟨y, hy⟩ : ∃ y, y = x1.getD Lk.zero := ⟨_, rfl⟩
  rw [← hy] at HW
  obtain ⟨z, hz⟩ : ∃ z, z = x1.isSome := ⟨_, rfl⟩
  rw [← hz] at HW
  by_cases hbad : (z || x2) = true
  · have HE : Hid (false = res ∧ R = R2) := Hid.mk (by
      have := HX.out
      rw [hz, this.1, this.2] at hbad
      rw [HR.out, HR2.out]
      unfold Rf.askB Rf.ask
      rw [if_pos hbad, hbad]
      exact ⟨rfl, rfl⟩)
    clear HX HR HR2 hy hz
    unfold lkV at *
    cases z with
    | true =>
      clear hbad
      go_enter Try.func12, Try.ntmps12
      go_upto_region 1 with fail
      rw [← hw0, ← hb]
      clear hw0 hb
      go_wp2_with (first
        | (go_at_call 17; refine HW.out.mono ?_; rintro e w1 ⟨rfl, H1⟩; have HB1 := Hid.mk (H1.alloc H1.size (.cells #[.int .i64 y.th, .int .i64 y.tg, .bool y.al] 31)); obtain ⟨c3, c4, c5⟩ := HCELL.out _ HB1.out; clear H1 HW)
        | (go_at_call 20; refine (HH.out _ HB1.out).mono ?_; rintro e w2 ⟨rfl, hw2⟩; subst hw2; clear HH)
        | go_in)
      go_ret
      exact ⟨congrArg (fun b => Ending.returned (.bool b)) HE.out.1, Hid.mk (by rw [← HE.out.2]; exact HEND.out _ HB1.out)⟩
    | false =>
      have hx2 : x2 = true := by simpa using hbad
      subst hx2
      clear hbad
      go_enter Try.func12, Try.ntmps12
      go_upto_region 1 with fail
      rw [← hw0, ← hb]
      clear hw0 hb
      go_wp2_with (first
        | (go_at_call 17; refine HW.out.mono ?_; rintro e w1 ⟨rfl, H1⟩; have HB1 := Hid.mk (H1.alloc H1.size (.cells #[.int .i64 y.th, .int .i64 y.tg, .bool y.al] 31)); obtain ⟨c3, c4, c5⟩ := HCELL.out _ HB1.out; clear H1 HW)
        | (go_at_call 20; refine (HH.out _ HB1.out).mono ?_; rintro e w2 ⟨rfl, hw2⟩; subst hw2; clear HH)
        | go_in)
      go_ret
      exact ⟨congrArg (fun b => Ending.returned (.bool b)) HE.out.1, Hid.mk (by rw [← HE.out.2]; exact HEND.out _ HB1.out)⟩
  · have hzf : z = false ∧ x2 = false := by simpa using hbad
    have HNB : Hid (((R.waits l.th).isSome || hasB R.held l.th l.tg) = false) := Hid.mk (by
      have := HX.out
      rw [← this.1, ← this.2, ← hz, hzf.1, hzf.2]
      rfl)
    obtain ⟨rfl, rfl⟩ := hzf
    clear HX hy hz hbad HEND
    unfold lkV at *
    obtain ⟨bv, hbv⟩ : ∃ bv, bv = besR R.held l := ⟨_, rfl⟩
    rw [← hbv] at HBS
    have HBV := Hid.mk hbv
    clear hbv
    obtain ⟨n, hn⟩ : ∃ n, R.row.length = n := ⟨_, rfl⟩
    have HN := Hid.mk hn
    obtain ⟨g, hg⟩ : ∃ g : Lk → Bool, g = fun h => h.tg == l.tg := ⟨_, rfl⟩
    have HGG := Hid.mk hg
    have HLN : n ≤ 1000000 := by have := HNN.out; omega
    clear hn hg
    go_enter Try.func12, Try.ntmps12
    go_upto_region 1 with fail
    rw [← hw0, ← hb]
    clear hw0 hb
    go_wp2_with (first
      | (go_at_call 17; refine HW.out.mono ?_; rintro e w1 ⟨rfl, H1⟩; have HB1 := Hid.mk (H1.alloc H1.size (.cells #[.int .i64 y.th, .int .i64 y.tg, .bool y.al] 31)); obtain ⟨c3, c4, c5⟩ := HCELL.out _ HB1.out; clear H1 HW)
      | (go_at_call 20; refine (HH.out _ HB1.out).mono ?_; rintro e w2 ⟨rfl, hw2⟩; subst hw2; clear HH)
      | (go_at_call 29; refine (HBS.out _ HB1.out).mono ?_; rintro e w3 ⟨rfl, H3⟩; have HB3 := Hid.mk (HB1.out.trans (H3.mono HB1.out.size)); clear H3)
      | go_in)
    go_loopw [8, 9] (fun fv kv wr => ∃ (k : Nat) (fb : Bool), kv = .int .i64 k ∧ fv = .bool fb ∧ Hid (Below w0.heap.size w0 wr ∧ k ≤ n ∧ fb = (bv && !(R.row.take k).any g))) (fun _ kv _ => n - (Go.RowKit.intOf kv).toNat)
    case atStart => exact ⟨0, bv, rfl, rfl, Hid.mk ⟨HB3.out, Nat.zero_le _, by simp⟩⟩
    case round =>
      obtain ⟨k, fb, rfl, rfl, HK⟩ := hrel
      clear HB3 HB1
      obtain ⟨ao, c, d0, hS⟩ : ∃ ao c, wr.cell? ⟨r, 1, none⟩ = some (.slice ao n c) ∧ SlOk wr (.slice ao n c) R.row := by
        obtain ⟨vH, vR, h1, _, h3, _⟩ := (HC.out wr HK.out.1).1
        obtain ⟨ao, c, rfl, _⟩ := sl_len h3
        have e := HN.out
        rw [e] at h1 h3
        exact ⟨ao, c, by rw [blk_cell h1]; rfl, h3⟩
      have HS := Hid.mk hS
      clear hS
      obtain ⟨c6, c7, c8⟩ := HCELL.out wr HK.out.1
      by_cases hkl : (k : Int) < (n : Int)
      · have v1 : IntKind.i64.wrap ((k : Int) + 1) = ((k + 1 : Nat) : Int) := by rw [IntKind.wrap_i64]; omega
        have HKL : Hid (k < n ∧ k < R.row.length) := Hid.mk (by have := HN.out; omega)
        obtain ⟨gg, off, rfl, _, d1, d2, d3⟩ := sl_at HS.out HKL.out.1
        have e8 : (⟨gg, off, none⟩ : Addr).add (k * 3) = ⟨gg, off + k * 3, none⟩ := by rw [add_at]
        have HT : Hid ((R.row.take (k + 1)).any g = ((R.row.take k).any g || ((R.row.getD k Lk.zero).tg == l.tg))) := Hid.mk (by rw [any_take HKL.out.2, HGG.out])
        have HBW : Hid (∀ m, Below w0.heap.size w0 (wr.drewN m)) := Hid.mk (fun m => HK.out.1.trans (below_drewN' _ _ _ HK.out.1.size))
        obtain ⟨y, hy⟩ : ∃ y, y = (R.row.getD k Lk.zero).tg := ⟨_, rfl⟩
        rw [← hy] at d2 HT
        clear hy d1 d3
        by_cases q1 : y = l.tg
        · have HV : Hid (false = (bv && !(R.row.take (k + 1)).any g)) := Hid.mk (by rw [HT.out, q1]; simp)
          subst q1
          go_wp2
          go_quiet (fail)
          go_wp2
          go_roundw
          case rel => exact ⟨k + 1, false, rfl, rfl, Hid.mk ⟨HBW.out _, HKL.out.1, HV.out⟩⟩
          case measure => (have := HKL.out.1; simp [Go.RowKit.intOf]; omega)
        · have q3 : (y == l.tg) = false := beq_eq_false_iff_ne.2 q1
          have HV : Hid (fb = (bv && !(R.row.take (k + 1)).any g)) := Hid.mk (by rw [HT.out, q3, Bool.or_false]; exact HK.out.2.2)
          go_wp2
          go_quiet (fail)
          go_wp2
          go_roundw
          case rel => exact ⟨k + 1, fb, rfl, rfl, Hid.mk ⟨HBW.out _, HKL.out.1, HV.out⟩⟩
          case measure => (have := HKL.out.1; simp [Go.RowKit.intOf]; omega)
      · have HFB : Hid (fb = R.freeB l) := Hid.mk (by
          have := HK.out
          rw [List.take_of_length_le (by have := HN.out; omega)] at this
          rw [this.2.2, HBV.out, HGG.out]
          rfl)
        cases fb with
        | true =>
          obtain ⟨vo, vc, vo7, vc7, W7, hr7, hH, HS6, HS7, HFZ, HF⟩ := rf_app0 (HC.out wr.drew (HK.out.1.trans ((drew_below wr).mono HK.out.1.size))).1 l HNN.out.1 (HC.out wr.drew (HK.out.1.trans ((drew_below wr).mono HK.out.1.size))).2.1 HBF.out
          have HAPP := Hid.mk hr7
          have HE : Hid (true = res ∧ RfAt (Grown F w) (W7.setCell ⟨r, 0, none⟩ (.slice vo7 (R.held.length + 1) vc7)) r R2 ∧ Only F w (W7.setCell ⟨r, 0, none⟩ (.slice vo7 (R.held.length + 1) vc7))) := Hid.mk (by
            have e1 : R.freeB l = true := HFB.out.symm
            have e2 : R.askB l = true := by unfold Rf.askB; rw [HNB.out, e1]; rfl
            have e3 : R.ask l = ⟨R.held ++ [l], R.row⟩ := by unfold Rf.ask; rw [if_neg (by rw [HNB.out]; simp), e1]; rfl
            rw [HR.out, HR2.out, e2, e3]
            exact ⟨rfl, HG.out _ _ _ (HC.out wr.drew (HK.out.1.trans ((drew_below wr).mono HK.out.1.size))).2.2 HF.out.1 HF.out.2⟩)
          clear hr7 HF HR HR2 HFB HNB HC HCELL HBS HG
          go_wp2
          refine wp_region_but 10 (fun W => W.cell? ⟨r, 0, none⟩ = some (.slice vo R.held.length vc) ∧ W.cell? ⟨b, 0, none⟩ = some (.int .i64 l.th) ∧ W.cell? ⟨b, 0 + 1, none⟩ = some (.int .i64 l.tg) ∧ W.cell? ⟨b, 0 + 2, none⟩ = some (.bool l.al)) (by kernel_rfl) hH (fun hH => ?_)
          refine takeL 0 51 (.pointer (some ⟨r, 0, none⟩)) rfl (by kernel_rfl) (by kernel_rfl) (by kernel_rfl) (by kernel_rfl) (by kernel_rfl) (fun _ _ _ h => h) (by kernel_rfl) (fun w hw => by kernel_rfl) hH ?_
          simp only [List.setIfInBounds_toArray, List.set_cons_zero, List.set_cons_succ]
          refine takeL 1 52 (.pointer (some ⟨r, 0, none⟩)) rfl (by kernel_rfl) (by kernel_rfl) (by kernel_rfl) (by kernel_rfl) (by kernel_rfl) (fun _ _ _ h => h) (by kernel_rfl) (fun w hw => by kernel_rfl) hH ?_
          simp only [List.setIfInBounds_toArray, List.set_cons_zero, List.set_cons_succ]
          refine takeL 2 53 (.pointer (some ⟨r, 0, none⟩)) rfl (by kernel_rfl) (by kernel_rfl) (by kernel_rfl) (by kernel_rfl) (by kernel_rfl) (fun _ _ _ h => h) (by kernel_rfl) (fun w hw => by go_simp) hH ?_
          simp only [List.setIfInBounds_toArray, List.set_cons_zero, List.set_cons_succ]
          refine takeL 3 54 (.pointer (some ⟨r, 0, none⟩)) rfl (by kernel_rfl) (by kernel_rfl) (by kernel_rfl) (by kernel_rfl) (by kernel_rfl) (fun _ _ _ h => h) (by kernel_rfl) (fun w hw => by go_simp) hH ?_
          simp only [List.setIfInBounds_toArray, List.set_cons_zero, List.set_cons_succ]
          refine takeL 4 55 (.slice vo R.held.length vc) rfl (by kernel_rfl) (by kernel_rfl) (by kernel_rfl) (by kernel_rfl) (by kernel_rfl) (fun _ _ _ h => h) (by kernel_rfl) (fun w hw => by (try dsimp only at hw); obtain ⟨hw1, hw2, hw3, hw4⟩ := hw; go_simp) hH ?_
          simp only [List.setIfInBounds_toArray, List.set_cons_zero, List.set_cons_succ]
          refine takeL 5 56 (lkV l) rfl (by kernel_rfl) (by kernel_rfl) (by kernel_rfl) (by kernel_rfl) (by kernel_rfl) (fun _ _ _ h => h) (by kernel_rfl) (fun w hw => by (try dsimp only at hw); obtain ⟨hw1, hw2, hw3, hw4⟩ := hw; exact exec_loadL (x := .tmp 3) (by kernel_rfl) (by kernel_rfl) hw2 hw3 hw4) hH ?_
          simp only [List.setIfInBounds_toArray, List.set_cons_zero, List.set_cons_succ]
          refine stepL_run 6 57 (.slice (some ⟨wr.drew.heap.size, 0, none⟩) 1 1) (wr.drew.alloc (.cells (lkC l).toArray 31)) rfl (by kernel_rfl) (by kernel_rfl) (by kernel_rfl) (exec_oneL (x := .tmp 56) (by kernel_rfl) (by kernel_rfl)) HS6.out ?_
          simp only [List.setIfInBounds_toArray, List.set_cons_zero, List.set_cons_succ]
          refine stepL_run 7 58 (.slice vo7 (R.held.length + 1) vc7) (W7) rfl (by kernel_rfl) (by kernel_rfl) (by kernel_rfl) (exec_append (s := .tmp 55) (x := .tmp 57) (by kernel_rfl) (by kernel_rfl) (by kernel_rfl) HAPP.out) HS7.out ?_
          simp only [List.setIfInBounds_toArray, List.set_cons_zero, List.set_cons_succ]
          refine stepL_run 8 59 (.pointer (some ⟨r, 0, none⟩)) (W7) rfl (by kernel_rfl) (by kernel_rfl) (by kernel_rfl) (by go_simp) HS7.out ?_
          simp only [List.setIfInBounds_toArray, List.set_cons_zero, List.set_cons_succ]
          refine stepL_run 9 60 (.pointer (some ⟨r, 0, none⟩)) (W7) rfl (by kernel_rfl) (by kernel_rfl) (by kernel_rfl) (by go_simp) HS7.out ?_
          simp only [List.setIfInBounds_toArray, List.set_cons_zero, List.set_cons_succ]
          refine lastL (W7.setCell ⟨r, 0, none⟩ (.slice vo7 (R.held.length + 1) vc7)) rfl (by kernel_rfl) (by kernel_rfl) (by kernel_rfl) (exec_storeS (p := .tmp 60) (x := .tmp 58) (by kernel_rfl) (by kernel_rfl) (by kernel_rfl) HS7.out.1 HFZ.out) (by kernel_rfl) ?_
          go_wp2
          go_ret
          exact ⟨congrArg (fun b => Ending.returned (.bool b)) HE.out.1, Hid.mk HE.out.2⟩
        | false =>
          obtain ⟨vo, vc, vo7, vc7, W7, hr7, hH, HS6, HS7, HFZ, HF⟩ := rf_app1 (HC.out wr.drew (HK.out.1.trans ((drew_below wr).mono HK.out.1.size))).1 l HNN.out.2 (HC.out wr.drew (HK.out.1.trans ((drew_below wr).mono HK.out.1.size))).2.1 HBF.out
          have HAPP := Hid.mk hr7
          have HE : Hid (false = res ∧ RfAt (Grown F w) (W7.setCell ⟨r, 1, none⟩ (.slice vo7 (R.row.length + 1) vc7)) r R2 ∧ Only F w (W7.setCell ⟨r, 1, none⟩ (.slice vo7 (R.row.length + 1) vc7))) := Hid.mk (by
            have e1 : R.freeB l = false := HFB.out.symm
            have e2 : R.askB l = false := by unfold Rf.askB; rw [HNB.out, e1]; rfl
            have e3 : R.ask l = ⟨R.held, R.row ++ [l]⟩ := by unfold Rf.ask; rw [if_neg (by rw [HNB.out]; simp), e1]; rfl
            rw [HR.out, HR2.out, e2, e3]
            exact ⟨rfl, HG.out _ _ _ (HC.out wr.drew (HK.out.1.trans ((drew_below wr).mono HK.out.1.size))).2.2 HF.out.1 HF.out.2⟩)
          clear hr7 HF HR HR2 HFB HNB HC HCELL HBS HG
          go_wp2
          refine wp_region_but 10 (fun W => W.cell? ⟨r, 1, none⟩ = some (.slice vo R.row.length vc) ∧ W.cell? ⟨b, 0, none⟩ = some (.int .i64 l.th) ∧ W.cell? ⟨b, 0 + 1, none⟩ = some (.int .i64 l.tg) ∧ W.cell? ⟨b, 0 + 2, none⟩ = some (.bool l.al)) (by kernel_rfl) hH (fun hH => ?_)
          refine takeL 0 61 (.pointer (some ⟨r, 0, none⟩)) rfl (by kernel_rfl) (by kernel_rfl) (by kernel_rfl) (by kernel_rfl) (by kernel_rfl) (fun _ _ _ h => h) (by kernel_rfl) (fun w hw => by kernel_rfl) hH ?_
          simp only [List.setIfInBounds_toArray, List.set_cons_zero, List.set_cons_succ]
          refine takeL 1 62 (.pointer (some ⟨r, 0, none⟩)) rfl (by kernel_rfl) (by kernel_rfl) (by kernel_rfl) (by kernel_rfl) (by kernel_rfl) (fun _ _ _ h => h) (by kernel_rfl) (fun w hw => by kernel_rfl) hH ?_
          simp only [List.setIfInBounds_toArray, List.set_cons_zero, List.set_cons_succ]
          refine takeL 2 63 (.pointer (some ⟨r, 0, none⟩)) rfl (by kernel_rfl) (by kernel_rfl) (by kernel_rfl) (by kernel_rfl) (by kernel_rfl) (fun _ _ _ h => h) (by kernel_rfl) (fun w hw => by go_simp) hH ?_
          simp only [List.setIfInBounds_toArray, List.set_cons_zero, List.set_cons_succ]
          refine takeL 3 64 (.pointer (some ⟨r, 1, none⟩)) rfl (by kernel_rfl) (by kernel_rfl) (by kernel_rfl) (by kernel_rfl) (by kernel_rfl) (fun _ _ _ h => h) (by kernel_rfl) (fun w hw => by go_simp) hH ?_
          simp only [List.setIfInBounds_toArray, List.set_cons_zero, List.set_cons_succ]
          refine takeL 4 65 (.slice vo R.row.length vc) rfl (by kernel_rfl) (by kernel_rfl) (by kernel_rfl) (by kernel_rfl) (by kernel_rfl) (fun _ _ _ h => h) (by kernel_rfl) (fun w hw => by (try dsimp only at hw); obtain ⟨hw1, hw2, hw3, hw4⟩ := hw; go_simp) hH ?_
          simp only [List.setIfInBounds_toArray, List.set_cons_zero, List.set_cons_succ]
          refine takeL 5 66 (lkV l) rfl (by kernel_rfl) (by kernel_rfl) (by kernel_rfl) (by kernel_rfl) (by kernel_rfl) (fun _ _ _ h => h) (by kernel_rfl) (fun w hw => by (try dsimp only at hw); obtain ⟨hw1, hw2, hw3, hw4⟩ := hw; exact exec_loadL (x := .tmp 3) (by kernel_rfl) (by kernel_rfl) hw2 hw3 hw4) hH ?_
          simp only [List.setIfInBounds_toArray, List.set_cons_zero, List.set_cons_succ]
          refine stepL_run 6 67 (.slice (some ⟨wr.drew.heap.size, 0, none⟩) 1 1) (wr.drew.alloc (.cells (lkC l).toArray 31)) rfl (by kernel_rfl) (by kernel_rfl) (by kernel_rfl) (exec_oneL (x := .tmp 66) (by kernel_rfl) (by kernel_rfl)) HS6.out ?_
          simp only [List.setIfInBounds_toArray, List.set_cons_zero, List.set_cons_succ]
          refine stepL_run 7 68 (.slice vo7 (R.row.length + 1) vc7) (W7) rfl (by kernel_rfl) (by kernel_rfl) (by kernel_rfl) (exec_append (s := .tmp 65) (x := .tmp 67) (by kernel_rfl) (by kernel_rfl) (by kernel_rfl) HAPP.out) HS7.out ?_
          simp only [List.setIfInBounds_toArray, List.set_cons_zero, List.set_cons_succ]
          refine stepL_run 8 69 (.pointer (some ⟨r, 0, none⟩)) (W7) rfl (by kernel_rfl) (by kernel_rfl) (by kernel_rfl) (by go_simp) HS7.out ?_
          simp only [List.setIfInBounds_toArray, List.set_cons_zero, List.set_cons_succ]
          refine stepL_run 9 70 (.pointer (some ⟨r, 1, none⟩)) (W7) rfl (by kernel_rfl) (by kernel_rfl) (by kernel_rfl) (by go_simp) HS7.out ?_
          simp only [List.setIfInBounds_toArray, List.set_cons_zero, List.set_cons_succ]
          refine lastL (W7.setCell ⟨r, 1, none⟩ (.slice vo7 (R.row.length + 1) vc7)) rfl (by kernel_rfl) (by kernel_rfl) (by kernel_rfl) (exec_storeS (p := .tmp 70) (x := .tmp 68) (by kernel_rfl) (by kernel_rfl) (by kernel_rfl) HS7.out.1 HFZ.out) (by kernel_rfl) ?_
          go_wp2
          go_ret
          exact ⟨congrArg (fun b => Ending.returned (.bool b)) HE.out.1, Hid.mk HE.out.2⟩
end Go.Proofs.Ytoediflikoedaaa
