/-
  The reference's Release.
-/
import Derived.Test.YtoediflikoedaaaLkRg
import Derived.BigQuiet
namespace Go.Proofs.Ytoediflikoedaaa
open Go Go.Proofs Go.RowKit Go.Shelf
attribute [local go_sem] Oper.semAt_some
theorem box_at {W : World} {b : Nat} {l : Lk} (h : W.heap[b]? = some (lkO l)) : W.cell? ⟨b, 0, none⟩ = some (.int .i64 l.th) ∧ W.cell? ⟨b, 1, none⟩ = some (.int .i64 l.tg) ∧ W.cell? ⟨b, 2, none⟩ = some (.bool l.al) := by
  unfold lkO at h
  refine ⟨?_, ?_, ?_⟩ <;> (rw [blk_cell h]; rfl)
theorem less_take {H : List Lk} {k : Nat} (hk : k < H.length) (p x : Int) : lessR (H.take (k + 1)) p x = if (H.getD k Lk.zero).th != p || (H.getD k Lk.zero).tg != x then lessR (H.take k) p x ++ [H.getD k Lk.zero] else lessR (H.take k) p x := by
  have e : H.take (k + 1) = H.take k ++ [H.getD k Lk.zero] := by
    rw [List.take_add_one, List.getElem?_eq_getElem hk]
    simp [List.getD, List.getElem?_eq_getElem hk]
  unfold lessR
  rw [e, List.filter_append]
  by_cases q : ((H.getD k Lk.zero).th != p || (H.getD k Lk.zero).tg != x) = true
  · rw [if_pos q, List.filter_cons_of_pos (p := fun l : Lk => l.th != p || l.tg != x) (a := H.getD k Lk.zero) q]
    rfl
  · rw [if_neg q, List.filter_cons_of_neg (p := fun l : Lk => l.th != p || l.tg != x) (a := H.getD k Lk.zero) q]
    simp
theorem less_len (H : List Lk) (k : Nat) (p x : Int) : (lessR (H.take k) p x).length ≤ H.length := by
  unfold lessR
  exact Nat.le_trans (List.length_filter_le _ _) (by rw [List.length_take]; omega)
theorem drop_getL {L : List Lk} {i : Nat} (h : i < L.length) : L.drop i = L.getD i Lk.zero :: L.drop (i + 1) := by
  rw [List.drop_eq_getElem_cons h]
  simp [List.getD, List.getElem?_eq_getElem h]
theorem loop_go {x : Int} {H r : List Lk} {l : Lk} {st : Bool} (h : (l.tg != x || st) = true) : loopR x H st (l :: r) = ((loopR x H st r).1, (loopR x H st r).2.1, l :: (loopR x H st r).2.2) := by
  conv => lhs; unfold loopR
  rw [if_pos h]
theorem loop_no {x : Int} {H r : List Lk} {l : Lk} (h : l.tg = x) (hb : besR H l = false) : loopR x H false (l :: r) = ((loopR x H true r).1, (loopR x H true r).2.1, l :: (loopR x H true r).2.2) := by
  conv => lhs; unfold loopR
  rw [if_neg (by simp [h]), if_neg (by simp [hb])]
theorem loop_yes {x : Int} {H r : List Lk} {l : Lk} (h : l.tg = x) (hb : besR H l = true) : loopR x H false (l :: r) = ((loopR x (H ++ [l]) false r).1, l :: (loopR x (H ++ [l]) false r).2.1, (loopR x (H ++ [l]) false r).2.2) := by
  conv => lhs; unfold loopR
  rw [if_neg (by simp [h]), if_pos hb]
set_option maxRecDepth 100000 in
set_option maxHeartbeats 16000000 in
theorem rrel_any {F : Nat → Prop} {w : World} {r : Nat} {R : Rf} (h : RfAt F w r R) (hF : ∀ k, F k → k < w.heap.size) (p x : Int) (hn : R.held.length ≤ 400000) (hm : R.row.length ≤ 400000) : Calls Try.prog 15 #[ptV r, .int .i64 p, .int .i64 x] w fun e w' => ∃ ao c, e = .returned (.slice ao (R.relL p x).length c) ∧ Hid (SlOk w' (.slice ao (R.relL p x).length c) (R.relL p x) ∧ RfAt (Grown F w) w' r (R.rel p x) ∧ Only F w w') := by
  have HH := Hid.mk (rholds_any h p x)
  cases hh : hasB R.held p x with
  | false =>
    have e1 : R.relL p x = [] := by unfold Rf.relL; rw [hh]; rfl
    have e2 : R.rel p x = R := by unfold Rf.rel; rw [hh]; rfl
    rw [e1, e2]
    rw [hh] at HH
    have HF : Hid (SlOk w (.slice none 0 0) [] ∧ RfAt (Grown F w) w r R ∧ Only F w w) := Hid.mk ⟨.inl ⟨rfl, rfl⟩, h.mono (fun k _ q => .inl q), Only.refl _ _⟩
    clear h hF e1 e2 hh
    go_enter Try.func15, Try.ntmps15
    go_wp2_with (first
      | (go_at_call 20; refine HH.out.mono ?_; rintro e w1 ⟨rfl, hw1⟩; have hw1 := hw1.symm; subst hw1; clear HH)
      | go_in)
    go_ret
    exact ⟨none, 0, rfl, HF⟩
  | true =>
    obtain ⟨Q, hQ⟩ : ∃ Q, Q = loopR x (lessR R.held p x) false R.row := ⟨_, rfl⟩
    have e1 : R.relL p x = Q.2.1 := by unfold Rf.relL; rw [hh, hQ]; rfl
    have e2 : R.rel p x = ⟨Q.1, Q.2.2⟩ := by unfold Rf.rel; rw [hh, hQ]; rfl
    rw [e1, e2]
    rw [hh] at HH
    obtain ⟨H, L⟩ := R
    simp only at hQ hn hm
    have HQ0 := Hid.mk hQ
    have HRF : Hid (RfAt F w r ⟨H, L⟩ ∧ ∀ k, F k → k < w.heap.size) := Hid.mk ⟨h, hF⟩
    have HNN : Hid (H.length ≤ 400000 ∧ L.length ≤ 400000) := Hid.mk ⟨hn, hm⟩
    obtain ⟨n, hnn⟩ : ∃ n, H.length = n := ⟨_, rfl⟩
    have HN := Hid.mk hnn
    have hlen : n ≤ 400000 := by omega
    clear h hF e1 e2 hh hQ hn hm hnn
    go_enter Try.func15, Try.ntmps15
    go_wp2_with (first
      | (go_at_call 20; refine HH.out.mono ?_; rintro e w1 ⟨rfl, hw1⟩; have hw1 := hw1.symm; subst hw1; clear HH)
      | go_in)
    go_loopw [8, 9] (fun hv kv wr => ∃ (k m : Nat) (ao : Option Addr) (c : Nat), kv = .int .i64 k ∧ hv = .slice ao m c ∧ Hid (Below w.heap.size w wr ∧ k ≤ n ∧ m = (lessR (H.take k) p x).length ∧ SlOk wr (.slice ao m c) (lessR (H.take k) p x) ∧ ∀ g, (Value.slice ao m c).ownBlock = some g → w.heap.size ≤ g)) (fun _ kv _ => n - (Go.RowKit.intOf kv).toNat)
    case atStart => exact ⟨0, 0, none, 0, rfl, rfl, Hid.mk ⟨Below.refl _ _, Nat.zero_le _, by simp [lessR], .inl ⟨rfl, by simp [lessR]⟩, fun g q => by cases q⟩⟩
    case round =>
      obtain ⟨k, m, ao, c, rfl, rfl, HK⟩ := hrel
      obtain ⟨aH, cH, d0, hS⟩ : ∃ ao c, wr.cell? ⟨r, 0, none⟩ = some (.slice ao n c) ∧ SlOk wr (.slice ao n c) H := by
        obtain ⟨vH, vR, h1, h3, _⟩ := HRF.out.1.below HK.out.1
        obtain ⟨ao, c, rfl, _⟩ := sl_len h3
        have e := HN.out
        rw [e] at h1 h3
        exact ⟨ao, c, by rw [blk_cell h1]; rfl, h3⟩
      have HS := Hid.mk hS
      clear hS
      by_cases hkl : (k : Int) < (n : Int)
      · have v1 : IntKind.i64.wrap ((k : Int) + 1) = ((k + 1 : Nat) : Int) := by rw [IntKind.wrap_i64]; omega
        have HKL : Hid (k < n ∧ k < H.length) := Hid.mk (by have := HN.out; omega)
        obtain ⟨gg, off, rfl, _, d1, d2, d3⟩ := sl_at HS.out HKL.out.1
        have e8 : (⟨gg, off, none⟩ : Addr).add (k * 3) = ⟨gg, off + k * 3, none⟩ := by rw [add_at]
        obtain ⟨l, hl⟩ : ∃ l, l = H.getD k Lk.zero := ⟨_, rfl⟩
        rw [← hl] at d1 d2 d3
        have HLD := Hid.mk hl
        clear hl
        by_cases q1 : l.th = p
        · by_cases q2 : l.tg = x
          · have HLS : Hid (lessR (H.take (k + 1)) p x = lessR (H.take k) p x) := Hid.mk (by rw [less_take HKL.out.2 p x, ← HLD.out, if_neg (by simp [q1, q2])])
            rw [q1] at d1
            rw [q2] at d2
            clear q1 q2
            go_wp2
            go_roundw
            case rel => exact ⟨k + 1, m, ao, c, rfl, rfl, Hid.mk ⟨HK.out.1, HKL.out.1, by rw [HLS.out]; exact HK.out.2.2.1, by rw [HLS.out]; exact HK.out.2.2.2.1, HK.out.2.2.2.2⟩⟩
            case measure => (have := HKL.out.1; simp [Go.RowKit.intOf]; omega)
          · have q3 : (l.tg == x) = false := beq_eq_false_iff_ne.2 q2
            have q4 : (l.tg != x) = true := bne_iff_ne.2 q2

            have HLS : Hid (lessR (H.take (k + 1)) p x = lessR (H.take k) p x ++ [l]) := Hid.mk (by rw [less_take HKL.out.2 p x, ← HLD.out, if_pos (by rw [q4]; simp)])
            obtain ⟨v', g', W', p1, p2, p3, p4, p5⟩ := appendl HK.out.2.2.2.1 l (by have := HK.out.2.2.1; have := HNN.out; have := less_len H k p x; omega)
            have hS' : SlOk W' v' (lessR (H.take k) p x ++ [l]) := .inr ⟨g', p2, p3⟩
            obtain ⟨ao', c', e'⟩ : ∃ ao c, v' = .slice ao (m + 1) c := by
              obtain ⟨ao, c, e⟩ := hS'.slice
              exact ⟨ao, c, by rw [e]; simp; exact HK.out.2.2.1.symm⟩
            subst e'
            have HAP : Hid ((Builtin.append_ #[27, 27] 27 #[.slice ao m c, .slice (some ⟨wr.heap.size, 0, none⟩) 1 1]).run Try.prog (wr.alloc (.cells #[.int .i64 p, .int .i64 l.tg, .bool l.al] 31)) = .ok (.slice ao' (m + 1) c') W') := Hid.mk (by rw [← q1]; exact p1)
            have HF : Hid (Below w.heap.size w W' ∧ k + 1 ≤ n ∧ m + 1 = (lessR (H.take (k + 1)) p x).length ∧ SlOk W' (.slice ao' (m + 1) c') (lessR (H.take (k + 1)) p x) ∧ ∀ g, (Value.slice ao' (m + 1) c').ownBlock = some g → w.heap.size ≤ g) := Hid.mk (by
              have hk := HK.out
              have hgl : w.heap.size ≤ g' := p4.elim (fun q => hk.2.2.2.2 g' q) (fun q => by have := hk.1.size; omega)
              refine ⟨hk.1.trans (p5.below hk.1.size (fun k e => by rw [e]; exact hgl)), HKL.out.1, ?_, by rw [HLS.out]; exact hS', fun g q => by rw [p2] at q; cases q; exact hgl⟩
              rw [HLS.out, List.length_append, hk.2.2.1]
              rfl)
            rw [q1] at d1
            clear p1 p2 p3 p4 p5 hS' HK q1
            go_wp2_with (first
              | (at_builtin; refine wpList_append_known rfl _ _ _ rfl _ _ _ _ rfl rfl HAP.out ?_; simp only [Act.put, List.setIfInBounds_toArray, List.set_cons_zero, List.set_cons_succ])
              | go_in)
            go_roundw
            case rel => exact ⟨k + 1, m + 1, ao', c', rfl, rfl, HF⟩
            case measure => (have := HKL.out.1; simp [Go.RowKit.intOf]; omega)
        · have q3 : (l.th == p) = false := beq_eq_false_iff_ne.2 q1
          have q4 : (l.th != p) = true := bne_iff_ne.2 q1

          have HLS : Hid (lessR (H.take (k + 1)) p x = lessR (H.take k) p x ++ [l]) := Hid.mk (by rw [less_take HKL.out.2 p x, ← HLD.out, if_pos (by rw [q4]; rfl)])
          obtain ⟨v', g', W', p1, p2, p3, p4, p5⟩ := appendl HK.out.2.2.2.1 l (by have := HK.out.2.2.1; have := HNN.out; have := less_len H k p x; omega)
          have hS' : SlOk W' v' (lessR (H.take k) p x ++ [l]) := .inr ⟨g', p2, p3⟩
          obtain ⟨ao', c', e'⟩ : ∃ ao c, v' = .slice ao (m + 1) c := by
            obtain ⟨ao, c, e⟩ := hS'.slice
            exact ⟨ao, c, by rw [e]; simp; exact HK.out.2.2.1.symm⟩
          subst e'
          have HAP : Hid ((Builtin.append_ #[27, 27] 27 #[.slice ao m c, .slice (some ⟨wr.heap.size, 0, none⟩) 1 1]).run Try.prog (wr.alloc (.cells #[.int .i64 l.th, .int .i64 l.tg, .bool l.al] 31)) = .ok (.slice ao' (m + 1) c') W') := Hid.mk p1
          have HF : Hid (Below w.heap.size w W' ∧ k + 1 ≤ n ∧ m + 1 = (lessR (H.take (k + 1)) p x).length ∧ SlOk W' (.slice ao' (m + 1) c') (lessR (H.take (k + 1)) p x) ∧ ∀ g, (Value.slice ao' (m + 1) c').ownBlock = some g → w.heap.size ≤ g) := Hid.mk (by
            have hk := HK.out
            have hgl : w.heap.size ≤ g' := p4.elim (fun q => hk.2.2.2.2 g' q) (fun q => by have := hk.1.size; omega)
            refine ⟨hk.1.trans (p5.below hk.1.size (fun k e => by rw [e]; exact hgl)), HKL.out.1, ?_, by rw [HLS.out]; exact hS', fun g q => by rw [p2] at q; cases q; exact hgl⟩
            rw [HLS.out, List.length_append, hk.2.2.1]
            rfl)
          clear p1 p2 p3 p4 p5 hS' HK
          go_wp2_with (first
            | (at_builtin; refine wpList_append_known rfl _ _ _ rfl _ _ _ _ rfl rfl HAP.out ?_; simp only [Act.put, List.setIfInBounds_toArray, List.set_cons_zero, List.set_cons_succ])
            | go_in)
          go_roundw
          case rel => exact ⟨k + 1, m + 1, ao', c', rfl, rfl, HF⟩
          case measure => (have := HKL.out.1; simp [Go.RowKit.intOf]; omega)
      · obtain ⟨⟨u0, d5⟩, d6, HQS⟩ := rq_start (H := lessR H p x) HRF.out.1 HRF.out.2 HK.out.1 (by
          have := HK.out.2.2.2.1
          rw [List.take_of_length_le (by have := HN.out; omega)] at this
          exact this) HK.out.2.2.2.2
        obtain ⟨nR, hnR⟩ : ∃ nR, L.length = nR := ⟨_, rfl⟩
        have HNR := Hid.mk hnR
        have hlR : nR ≤ 400000 := by have := HNN.out; omega
        have HLL : Hid ((lessR H p x).length ≤ 400000) := Hid.mk (by have := less_len H H.length p x; rw [List.take_length] at this; have := HNN.out; omega)
        clear HK HRF hnR
        go_wp2
        generalize wr.setCell ⟨r, 0, none⟩ (.slice ao m c) = wS at *
        go_loopw [10, 11, 12, 13, 14, 15] (fun ov rv sv kv _ _ wr => ∃ (k : Nat) (ao : Option Addr) (c : Nat) (ar : Option Addr) (cr : Nat) (st : Bool) (Hc oc rc : List Lk), kv = .int .i64 k ∧ ov = .slice ao oc.length c ∧ rv = .slice ar rc.length cr ∧ sv = .bool st ∧ Hid (k ≤ nR ∧ Rq F (fun _ => False) w wr r ⟨Hc, L⟩ (.slice ao oc.length c) (.slice ar rc.length cr) oc rc ∧ Q = ((loopR x Hc st (L.drop k)).1, oc ++ (loopR x Hc st (L.drop k)).2.1, rc ++ (loopR x Hc st (L.drop k)).2.2) ∧ oc.length ≤ k ∧ rc.length ≤ k ∧ Hc.length ≤ 400000 + k)) (fun _ _ _ kv _ _ _ => nR - (Go.RowKit.intOf kv).toNat)
        case atStart => exact ⟨0, none, 0, none, 0, false, _, [], [], rfl, rfl, rfl, rfl, Hid.mk ⟨Nat.zero_le _, HQS.out, by rw [HQ0.out]; simp, by simp, by simp, by have := HLL.out; omega⟩⟩
        case round =>
          obtain ⟨k, ao, c, ar, cr, st, Hc, oc, rc, rfl, rfl, rfl, rfl, HI⟩ := hrel
          clear HQS
          have HQ := Hid.mk HI.out.2.2.1
          have HR1 := Hid.mk HI.out.2.1
          have HB : Hid (oc.length ≤ k ∧ rc.length ≤ k ∧ Hc.length ≤ 400000 + k) := Hid.mk HI.out.2.2.2
          have hkn : k ≤ nR := HI.out.1
          clear HI
          obtain ⟨aR, cR, d0, hS⟩ : ∃ ao c, wr.cell? ⟨r, 1, none⟩ = some (.slice ao nR c) ∧ SlOk wr (.slice ao nR c) L := by
            obtain ⟨Fz, vH, vR, h1, _, h3, _⟩ := HR1.out.rf
            obtain ⟨ao, c, rfl, _⟩ := sl_len h3
            have e := HNR.out
            rw [e] at h1 h3
            exact ⟨ao, c, by rw [blk_cell h1]; rfl, h3⟩
          have HS2 := Hid.mk hS
          clear hS
          by_cases hkl2 : (k : Int) < (nR : Int)
          · have v1 : IntKind.i64.wrap ((k : Int) + 1) = ((k + 1 : Nat) : Int) := by rw [IntKind.wrap_i64]; omega
            have HKL : Hid (k < nR ∧ k < L.length) := Hid.mk (by have := HNR.out; omega)
            obtain ⟨gg, off, rfl, _, d1, d2, d3⟩ := sl_at HS2.out HKL.out.1
            have e8 : (⟨gg, off, none⟩ : Addr).add (k * 3) = ⟨gg, off + k * 3, none⟩ := by rw [add_at]
            have HDR := Hid.mk (drop_getL HKL.out.2)
            obtain ⟨l, hl⟩ : ∃ l, l = L.getD k Lk.zero := ⟨_, rfl⟩
            rw [← hl] at d1 d2 d3 HDR
            clear hl
            obtain ⟨b, hb⟩ : ∃ b, b = wr.heap.size := ⟨_, rfl⟩
            obtain ⟨W1, hW1⟩ : ∃ W1, W1 = wr.alloc (.cells #[.int .i64 l.th, .int .i64 l.tg, .bool l.al] 31) := ⟨_, rfl⟩
            have HRb : Hid (Rq F (fun k => k = b) w W1 r ⟨Hc, L⟩ (.slice ao oc.length c) (.slice ar rc.length cr) oc rc) := Hid.mk (by rw [hW1, hb]; exact HR1.out.box _)
            have HBX : Hid (W1.heap[b]? = some (lkO l)) := Hid.mk (by rw [hW1, hb]; exact blk_new wr _)
            clear HR1
            go_upto_region 18 with fail
            rw [← hW1, ← hb]
            clear hW1 hb d0 d1 d2 d3
            obtain ⟨k0, k1, k2⟩ := box_at HBX.out
            by_cases q1 : l.tg = x
            · subst q1
              cases st with
              | true =>
                obtain ⟨ar', cr', W9, p9, H9⟩ := rq_row HRb.out l (by have := HB.out; have := HKL.out; have := HNN.out; omega)
                have HAP : Hid ((Builtin.append_ #[27, 27] 27 #[.slice ar rc.length cr, .slice (some ⟨W1.heap.size, 0, none⟩) 1 1]).run Try.prog (W1.alloc (.cells #[.int .i64 l.th, .int .i64 l.tg, .bool l.al] 31)) = .ok (.slice ar' (rc.length + 1) cr') W9) := Hid.mk p9
                have HF : Hid (k + 1 ≤ nR ∧ Rq F (fun _ => False) w W9 r ⟨Hc, L⟩ (.slice ao oc.length c) (.slice ar' (rc ++ [l]).length cr') oc (rc ++ [l]) ∧ Q = ((loopR l.tg Hc true (L.drop (k + 1))).1, oc ++ (loopR l.tg Hc true (L.drop (k + 1))).2.1, (rc ++ [l]) ++ (loopR l.tg Hc true (L.drop (k + 1))).2.2) ∧ oc.length ≤ k + 1 ∧ (rc ++ [l]).length ≤ k + 1 ∧ Hc.length ≤ 400000 + (k + 1)) := Hid.mk (by
                  have hb := HB.out
                  refine ⟨HKL.out.1, ?_, ?_, by omega, by rw [List.length_append]; simp; omega, by omega⟩
                  · have := H9.out.1.free
                    rw [List.length_append]
                    exact this
                  · have e := HQ.out
                    rw [HDR.out, loop_go (by simp)] at e
                    rw [e]
                    simp)
                clear p9 H9
                go_wp2_with (first
                  | (at_builtin; refine wpList_append_known rfl _ _ _ rfl _ _ _ _ rfl rfl HAP.out ?_; simp only [Act.put, List.setIfInBounds_toArray, List.set_cons_zero, List.set_cons_succ])
                  | go_in)
                go_roundw
                case rel => exact ⟨k + 1, ao, c, ar', cr', true, Hc, oc, rc ++ [l], rfl, rfl, by rw [List.length_append]; rfl, rfl, HF⟩
                case measure => (have := HKL.out.1; simp [Go.RowKit.intOf]; omega)
              | false =>
                obtain ⟨bv, hbv⟩ : ∃ bv, bv = besR Hc l := ⟨_, rfl⟩
                have HBS : Hid (Calls Try.prog 29 #[ptV r, .agg #[.int .i64 l.th, .int .i64 l.tg, .bool l.al]] W1 fun e w' => e = .returned (.bool bv) ∧ Below W1.heap.size W1 w') := Hid.mk (by
                  obtain ⟨Fz, hz⟩ := HRb.out.rf
                  rw [hbv]
                  exact rbeside_any hz l)
                have HBV := Hid.mk hbv
                clear hbv
                go_upto_region 21 with (first
                  | (go_at_call 29; refine HBS.out.mono ?_; rintro e W2 ⟨rfl, hW2⟩; have HW2 := Hid.mk hW2; clear hW2 HBS)
                  | go_in)
                have HRc := Hid.mk (HRb.out.below HW2.out)
                have HBX2 : Hid (W2.heap[b]? = some (lkO l)) := Hid.mk ((HW2.out.block b (lt_of_block HBX.out)).trans HBX.out)
                clear HRb HBX HW2 k0 k1 k2
                obtain ⟨k0, k1, k2⟩ := box_at HBX2.out
                cases bv with
                | false =>
                  obtain ⟨ar', cr', W9, p9, H9⟩ := rq_row HRc.out l (by have := HB.out; have := HKL.out; have := HNN.out; omega)
                  have HAP : Hid ((Builtin.append_ #[27, 27] 27 #[.slice ar rc.length cr, .slice (some ⟨W2.heap.size, 0, none⟩) 1 1]).run Try.prog (W2.alloc (.cells #[.int .i64 l.th, .int .i64 l.tg, .bool l.al] 31)) = .ok (.slice ar' (rc.length + 1) cr') W9) := Hid.mk p9
                  have HF : Hid (k + 1 ≤ nR ∧ Rq F (fun _ => False) w W9 r ⟨Hc, L⟩ (.slice ao oc.length c) (.slice ar' (rc ++ [l]).length cr') oc (rc ++ [l]) ∧ Q = ((loopR l.tg Hc true (L.drop (k + 1))).1, oc ++ (loopR l.tg Hc true (L.drop (k + 1))).2.1, (rc ++ [l]) ++ (loopR l.tg Hc true (L.drop (k + 1))).2.2) ∧ oc.length ≤ k + 1 ∧ (rc ++ [l]).length ≤ k + 1 ∧ Hc.length ≤ 400000 + (k + 1)) := Hid.mk (by
                    have hb := HB.out
                    refine ⟨HKL.out.1, ?_, ?_, by omega, by rw [List.length_append]; simp; omega, by omega⟩
                    · have := H9.out.1.free
                      rw [List.length_append]
                      exact this
                    · have e := HQ.out
                      rw [HDR.out, loop_no rfl HBV.out.symm] at e
                      rw [e]
                      simp)
                  clear p9 H9
                  go_wp2_with (first
                    | (at_builtin; refine wpList_append_known rfl _ _ _ rfl _ _ _ _ rfl rfl HAP.out ?_; simp only [Act.put, List.setIfInBounds_toArray, List.set_cons_zero, List.set_cons_succ])
                    | go_in)
                  go_roundw
                  case rel => exact ⟨k + 1, ao, c, ar', cr', true, Hc, oc, rc ++ [l], rfl, rfl, by rw [List.length_append]; rfl, rfl, HF⟩
                  case measure => (have := HKL.out.1; simp [Go.RowKit.intOf]; omega)
                | true =>
                  obtain ⟨vo, vc, vo7, vc7, W7, hr7, hH, HS6, HS7, HFZ, HP⟩ := rq_push (HRc.out.below (drew_below W2)) l (by have := HB.out; have := HKL.out; show Hc.length ≤ 1000000; omega) (b := b) (HBX2.out) rfl
                  have HAPP := Hid.mk hr7
                  clear hr7
                  simp only at HAPP hH HS6 HS7 HFZ HP
                  obtain ⟨W8, hW8⟩ : ∃ W8, W8 = W7.setCell ⟨r, 0, none⟩ (.slice vo7 (Hc.length + 1) vc7) := ⟨_, rfl⟩
                  rw [← hW8] at HP
                  have HBX8 : Hid (W8.heap[b]? = some (lkO l)) := Hid.mk ((HP.out.2 b rfl).trans HBX2.out)
                  obtain ⟨ao', c', W9, p9, H9⟩ := rq_out HP.out.1 l (by have := HB.out; have := HKL.out; omega)
                  have HAP : Hid ((Builtin.append_ #[27, 27] 27 #[.slice ao oc.length c, .slice (some ⟨W8.heap.size, 0, none⟩) 1 1]).run Try.prog (W8.alloc (.cells #[.int .i64 l.th, .int .i64 l.tg, .bool l.al] 31)) = .ok (.slice ao' (oc.length + 1) c') W9) := Hid.mk p9
                  have HF : Hid (k + 1 ≤ nR ∧ Rq F (fun _ => False) w W9 r ⟨Hc ++ [l], L⟩ (.slice ao' (oc ++ [l]).length c') (.slice ar rc.length cr) (oc ++ [l]) rc ∧ Q = ((loopR l.tg (Hc ++ [l]) false (L.drop (k + 1))).1, (oc ++ [l]) ++ (loopR l.tg (Hc ++ [l]) false (L.drop (k + 1))).2.1, rc ++ (loopR l.tg (Hc ++ [l]) false (L.drop (k + 1))).2.2) ∧ (oc ++ [l]).length ≤ k + 1 ∧ rc.length ≤ k + 1 ∧ (Hc ++ [l]).length ≤ 400000 + (k + 1)) := Hid.mk (by
                    have hb := HB.out
                    refine ⟨HKL.out.1, ?_, ?_, by rw [List.length_append]; simp; omega, by omega, by rw [List.length_append]; simp; omega⟩
                    · have := H9.out.1.free
                      rw [List.length_append]
                      exact this
                    · have e := HQ.out
                      rw [HDR.out, loop_yes rfl HBV.out.symm] at e
                      rw [e]
                      simp)
                  clear p9 H9 HP HRc
                  obtain ⟨k3, k4, k5⟩ := box_at HBX8.out
                  clear k0 k1 k2
                  go_wp2
                  refine wp_region_but 10 (fun W => W.cell? ⟨r, 0, none⟩ = some (.slice vo Hc.length vc) ∧ W.cell? ⟨b, 0, none⟩ = some (.int .i64 l.th) ∧ W.cell? ⟨b, 0 + 1, none⟩ = some (.int .i64 l.tg) ∧ W.cell? ⟨b, 0 + 2, none⟩ = some (.bool l.al)) (by kernel_rfl) hH (fun hH => ?_)
                  refine takeL 0 103 (.pointer (some ⟨r, 0, none⟩)) rfl (by kernel_rfl) (by kernel_rfl) (by kernel_rfl) (by kernel_rfl) (by kernel_rfl) (fun _ _ _ h => h) (by kernel_rfl) (fun w hw => by kernel_rfl) hH ?_
                  simp only [List.setIfInBounds_toArray, List.set_cons_zero, List.set_cons_succ]
                  refine takeL 1 104 (.pointer (some ⟨r, 0, none⟩)) rfl (by kernel_rfl) (by kernel_rfl) (by kernel_rfl) (by kernel_rfl) (by kernel_rfl) (fun _ _ _ h => h) (by kernel_rfl) (fun w hw => by kernel_rfl) hH ?_
                  simp only [List.setIfInBounds_toArray, List.set_cons_zero, List.set_cons_succ]
                  refine takeL 2 105 (.pointer (some ⟨r, 0, none⟩)) rfl (by kernel_rfl) (by kernel_rfl) (by kernel_rfl) (by kernel_rfl) (by kernel_rfl) (fun _ _ _ h => h) (by kernel_rfl) (fun w hw => by go_simp) hH ?_
                  simp only [List.setIfInBounds_toArray, List.set_cons_zero, List.set_cons_succ]
                  refine takeL 3 106 (.pointer (some ⟨r, 0, none⟩)) rfl (by kernel_rfl) (by kernel_rfl) (by kernel_rfl) (by kernel_rfl) (by kernel_rfl) (fun _ _ _ h => h) (by kernel_rfl) (fun w hw => by go_simp) hH ?_
                  simp only [List.setIfInBounds_toArray, List.set_cons_zero, List.set_cons_succ]
                  refine takeL 4 107 (.slice vo Hc.length vc) rfl (by kernel_rfl) (by kernel_rfl) (by kernel_rfl) (by kernel_rfl) (by kernel_rfl) (fun _ _ _ h => h) (by kernel_rfl) (fun w hw => by (try dsimp only at hw); obtain ⟨hw1, hw2, hw3, hw4⟩ := hw; go_simp) hH ?_
                  simp only [List.setIfInBounds_toArray, List.set_cons_zero, List.set_cons_succ]
                  refine takeL 5 108 (lkV l) rfl (by kernel_rfl) (by kernel_rfl) (by kernel_rfl) (by kernel_rfl) (by kernel_rfl) (fun _ _ _ h => h) (by kernel_rfl) (fun w hw => by (try dsimp only at hw); obtain ⟨hw1, hw2, hw3, hw4⟩ := hw; exact exec_loadL (x := .tmp 14) (by kernel_rfl) (by kernel_rfl) hw2 hw3 hw4) hH ?_
                  simp only [List.setIfInBounds_toArray, List.set_cons_zero, List.set_cons_succ]
                  refine stepL_run 6 109 (.slice (some ⟨W2.drew.heap.size, 0, none⟩) 1 1) (W2.drew.alloc (.cells (lkC l).toArray 31)) rfl (by kernel_rfl) (by kernel_rfl) (by kernel_rfl) (exec_oneL (x := .tmp 108) (by kernel_rfl) (by kernel_rfl)) HS6.out ?_
                  simp only [List.setIfInBounds_toArray, List.set_cons_zero, List.set_cons_succ]
                  refine stepL_run 7 110 (.slice vo7 (Hc.length + 1) vc7) (W7) rfl (by kernel_rfl) (by kernel_rfl) (by kernel_rfl) (exec_append (s := .tmp 107) (x := .tmp 109) (by kernel_rfl) (by kernel_rfl) (by kernel_rfl) HAPP.out) HS7.out ?_
                  simp only [List.setIfInBounds_toArray, List.set_cons_zero, List.set_cons_succ]
                  refine stepL_run 8 111 (.pointer (some ⟨r, 0, none⟩)) (W7) rfl (by kernel_rfl) (by kernel_rfl) (by kernel_rfl) (by go_simp) HS7.out ?_
                  simp only [List.setIfInBounds_toArray, List.set_cons_zero, List.set_cons_succ]
                  refine stepL_run 9 112 (.pointer (some ⟨r, 0, none⟩)) (W7) rfl (by kernel_rfl) (by kernel_rfl) (by kernel_rfl) (by go_simp) HS7.out ?_
                  simp only [List.setIfInBounds_toArray, List.set_cons_zero, List.set_cons_succ]
                  refine lastL (W7.setCell ⟨r, 0, none⟩ (.slice vo7 (Hc.length + 1) vc7)) rfl (by kernel_rfl) (by kernel_rfl) (by kernel_rfl) (exec_storeS (p := .tmp 112) (x := .tmp 110) (by kernel_rfl) (by kernel_rfl) (by kernel_rfl) HS7.out.1 HFZ.out) (by kernel_rfl) ?_
                  rw [← hW8]
                  clear hW8 HS6 HS7 HFZ HAPP hH
                  go_wp2_with (first
                    | (at_builtin; refine wpList_append_known rfl _ _ _ rfl _ _ _ _ rfl rfl HAP.out ?_; simp only [Act.put, List.setIfInBounds_toArray, List.set_cons_zero, List.set_cons_succ])
                    | go_in)
                  go_roundw
                  case rel => exact ⟨k + 1, ao', c', ar, cr, false, Hc ++ [l], oc ++ [l], rc, rfl, by rw [List.length_append]; rfl, rfl, rfl, HF⟩
                  case measure => (have := HKL.out.1; simp [Go.RowKit.intOf]; omega)
            · have q3 : (l.tg == x) = false := beq_eq_false_iff_ne.2 q1
              obtain ⟨ar', cr', W9, p9, H9⟩ := rq_row HRb.out l (by have := HB.out; have := HKL.out; have := HNN.out; omega)
              have HAP : Hid ((Builtin.append_ #[27, 27] 27 #[.slice ar rc.length cr, .slice (some ⟨W1.heap.size, 0, none⟩) 1 1]).run Try.prog (W1.alloc (.cells #[.int .i64 l.th, .int .i64 l.tg, .bool l.al] 31)) = .ok (.slice ar' (rc.length + 1) cr') W9) := Hid.mk p9
              have HF : Hid (k + 1 ≤ nR ∧ Rq F (fun _ => False) w W9 r ⟨Hc, L⟩ (.slice ao oc.length c) (.slice ar' (rc ++ [l]).length cr') oc (rc ++ [l]) ∧ Q = ((loopR x Hc st (L.drop (k + 1))).1, oc ++ (loopR x Hc st (L.drop (k + 1))).2.1, (rc ++ [l]) ++ (loopR x Hc st (L.drop (k + 1))).2.2) ∧ oc.length ≤ k + 1 ∧ (rc ++ [l]).length ≤ k + 1 ∧ Hc.length ≤ 400000 + (k + 1)) := Hid.mk (by
                have hb := HB.out
                refine ⟨HKL.out.1, ?_, ?_, by omega, by rw [List.length_append]; simp; omega, by omega⟩
                · have := H9.out.1.free
                  rw [List.length_append]
                  exact this
                · have e := HQ.out
                  rw [HDR.out, loop_go (by rw [bne_iff_ne.2 q1]; rfl)] at e
                  rw [e]
                  simp)
              clear p9 H9
              go_wp2_with (first
                | (at_builtin; refine wpList_append_known rfl _ _ _ rfl _ _ _ _ rfl rfl HAP.out ?_; simp only [Act.put, List.setIfInBounds_toArray, List.set_cons_zero, List.set_cons_succ])
                | go_in)
              go_roundw
              case rel => exact ⟨k + 1, ao, c, ar', cr', st, Hc, oc, rc ++ [l], rfl, rfl, by rw [List.length_append]; rfl, rfl, HF⟩
              case measure => (have := HKL.out.1; simp [Go.RowKit.intOf]; omega)
          · have e0 : L.drop k = [] := List.drop_eq_nil_of_le (by have := HNR.out; omega)
            have eQ := HQ.out
            rw [e0] at eQ
            have HEQ : Hid (Q.1 = Hc ∧ Q.2.1 = oc ∧ Q.2.2 = rc) := Hid.mk (by rw [eQ]; simp [loopR])
            obtain ⟨⟨u1, d5⟩, d6, HE⟩ := rq_end HR1.out
            have HFIN : Hid (oc.length = Q.2.1.length ∧ SlOk (wr.setCell ⟨r, 1, none⟩ (.slice ar rc.length cr)) (.slice ao Q.2.1.length c) Q.2.1 ∧ RfAt (Grown F w) (wr.setCell ⟨r, 1, none⟩ (.slice ar rc.length cr)) r ⟨Q.1, Q.2.2⟩ ∧ Only F w (wr.setCell ⟨r, 1, none⟩ (.slice ar rc.length cr))) := Hid.mk (by
              have e := HEQ.out
              rw [e.1, e.2.1, e.2.2]
              exact ⟨rfl, HE.out.2.1, HE.out.1, HE.out.2.2⟩)
            clear HE HEQ eQ e0 HQ HR1 HQ0
            go_wp2
            go_ret
            exact ⟨ao, c, congrArg (fun m : Nat => Ending.returned (.slice ao m c)) HFIN.out.1, Hid.mk HFIN.out.2⟩
end Go.Proofs.Ytoediflikoedaaa
