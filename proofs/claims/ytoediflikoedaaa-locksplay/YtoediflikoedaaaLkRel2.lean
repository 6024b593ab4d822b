/-
  Release: the walk.
-/
import Derived.Test.YtoediflikoedaaaLkRel
namespace Go.Proofs.Ytoediflikoedaaa
open Go Go.Proofs Go.RowKit Go.Shelf
attribute [local go_sem] Oper.semAt_some
section
variable {F : Nat → Prop} {w : World} {t : Nat} {D : Td}
set_option maxRecDepth 100000 in
set_option maxHeartbeats 4000000 in
theorem rel_no (h : TbAt F w t D) (th tg : Int) (hth : (Lit.int .i64 th).wf = true) (htg : (Lit.int .i64 tg).wf = true) (hh : D.abs.holds th tg = false) : Calls Try.prog 14 #[ptV t, .int .i64 th, .int .i64 tg] w fun e w' => e = .returned (.slice none 0 0) ∧ Below w.heap.size w w' := by
  have HH := Hid.mk (holds_any h th tg hth htg)
  rw [hh] at HH
  clear h
  go_enter Try.func14, Try.ntmps14
  go_wp2_with (first
    | (go_at_call 19; refine HH.out.mono ?_; rintro e w1 ⟨rfl, hB1⟩; have HB1 := Hid.mk hB1; clear hB1)
    | go_in)
  go_ret
  exact ⟨rfl, HB1.out⟩
set_option maxRecDepth 100000 in
set_option maxHeartbeats 4000000 in
theorem rel_row (h : TbAt F w t D) (th tg : Int) (hth : (Lit.int .i64 th).wf = true) (htg : (Lit.int .i64 tg).wf = true) (hst : D.St) {N : Nat} (hf : Fit N D) (hN : N ≤ 400000) (hh : D.abs.holds th tg = true) {x0 : Rx} (hi : D.rows tg = some x0) (hrow : RowOk D tg x0.L) :
    Calls Try.prog 14 #[ptV t, .int .i64 th, .int .i64 tg] w fun e w' => ∃ u, e = .returned u ∧ Hid (RelTo F w t D ((D.abs.drop th tg).run tg) ((D.abs.drop th tg).runs tg) N u w') := by
  obtain ⟨y, hy⟩ := holds_some hh
  have hM := St.made hst hy
  obtain ⟨⟨B, hB1, hB2⟩, hR⟩ := hf
  have hL := hR.2 _ _ hi
  have HH := Hid.mk (holds_any h th tg hth htg)
  rw [hh] at HH
  have HDROP : Hid (∀ w1, Below w.heap.size w w1 → Calls Try.prog 30 #[ptV t, .int .i64 th, .int .i64 tg] w1 fun e w2 => e = .returned (.tuple #[]) ∧ w2.cell? ⟨t, 1, none⟩ = some (.map D.rm) ∧ (Instr.lookup 51 (.map D.rm) (.int .i64 tg) false).run Try.prog w2 = .ok (ptV x0.b) w2 ∧ Hid (∃ Fk Dk x, RelI F w t D (D.abs.drop th tg) tg x0.b x0.L B N 0 (.slice none 0 0) w2 Fk Dk x)) := Hid.mk (fun w1 hBw => by
    refine (drop_any (h.old.below hBw) th tg hth htg hy hB1).mono ?_
    rintro e w2 ⟨rfl, D', HQ⟩
    obtain ⟨a1, a2, a3, a4, a5⟩ := HQ.out
    have hr' : D'.rows tg = some x0 := by rw [a4.rows]; exact hi
    have c1 := a1.cells.2.1
    have q1 := a1.lookR_some htg hr'
    rw [a4.rm] at c1 q1
    refine ⟨rfl, c1, q1, Hid.mk ⟨Old F w, D', x0, a1, fun j hj => .inl hj.1, (Only.of_new F hBw).trans a2 (fun j hj => .inl hj.1), .inl ⟨rfl, by simp⟩, fun g hg => (by cases hg), hr', rfl, rfl, fun i _ => by rw [a3], fun i _ => by rw [a3], ?_, ?_, ?_, Nat.zero_le _, a5, a4.nw, a4.wm, ?_, ?_⟩⟩
    · exact a4.waits
    · rw [a3]; rfl
    · rw [a3]; rfl
    · obtain ⟨p, q, s, h1, h2, h3⟩ := hM
      exact ⟨p, q, s, a4.hm.trans h1, a4.rm.trans h2, a4.wm.trans h3⟩
    · exact ⟨by rw [a4.nr]; exact hR.1, fun i z hz => by rw [a4.rows] at hz; exact hR.2 i z hz⟩)
  have HRW := Hid.mk hrow
  have HA : Hid ((D.abs.drop th tg).rows tg = some x0.L) := Hid.mk (absr_at hi)
  have HNUM : Hid (B + D.nw ≤ N ∧ N ≤ 400000 ∧ x0.L.length ≤ N ∧ (Lit.int .i64 tg).wf = true) := Hid.mk ⟨hB2, hN, hL, htg⟩
  obtain ⟨A1, hA1⟩ : ∃ A1, A1 = D.abs.drop th tg := ⟨_, rfl⟩
  have HAW : Hid (A1.waits = D.waits) := Hid.mk (by rw [hA1]; rfl)
  rw [← hA1] at HDROP HA ⊢
  have q2 := ner_some x0.b
  generalize x0.L = L0 at *
  generalize x0.b = b at *
  clear h hst hM hB1 hB2 hR hL hN hy hh hrow hi hA1 hth
  go_enter Try.func14, Try.ntmps14
  go_wp2_with (first
    | (go_at_call 19; refine HH.out.mono ?_; rintro e w1 ⟨rfl, hB1⟩; have HD := Hid.mk (HDROP.out w1 hB1); clear hB1 HDROP HH)
    | (go_at_call 30; refine HD.out.mono ?_; rintro e w2 ⟨rfl, c1, q1, H0⟩; clear HD)
    | go_in)
  go_loopw [7] (fun u wr => ∃ k : Nat, (∃ ao c, u = .slice ao k c) ∧ Hid (∃ Fk Dk x, RelI F w t D A1 tg b L0 B N k u wr Fk Dk x)) (fun u _ => L0.length - (match u with | .slice _ k _ => k | _ => 0))
  case atStart => exact ⟨0, ⟨none, 0, rfl⟩, H0⟩
  case round =>
    obtain ⟨k, ⟨ao, c, rfl⟩, HR⟩ := hrel
    obtain ⟨Fk, Dk, x, HI⟩ := HR.out
    clear H0 c1 q1 HR
    have HE := HI.tb.empty HI.row
    rw [HI.xb] at HE
    cases hl : L0.drop k with
    | nil =>
      rw [HI.xL, hl] at HE
      rw [decide_eq_true (show ([] : List Lk).length = 0 from rfl)] at HE
      have HE := Hid.mk HE
      have HLV := Hid.mk (rel_end HI (by rw [hl]; rfl) HA.out HAW.out HRW.out HNUM.out.1 (by have := HNUM.out; omega) HNUM.out.2.2.2 wr (Below.refl _ _))
      clear HI
      go_wp2_with (first
        | (go_at_call 31; refine HE.out.mono ?_; rintro e w3 ⟨rfl, hw3⟩; have hw3' := hw3.symm; clear hw3; subst hw3')
        | (go_at_call 34; refine HLV.out.mono ?_; rintro e w4 ⟨rfl, H4⟩)
        | go_in)
      go_ret
      exact ⟨_, rfl, H4⟩
    | cons l r =>
      rw [HI.xL, hl] at HE
      rw [decide_eq_false (show ¬ (l :: r).length = 0 by simp)] at HE
      have HE := Hid.mk HE
      have hxl := HI.xL.trans hl
      have hlm : l ∈ L0 := List.mem_of_mem_drop (by rw [hl]; simp)
      obtain ⟨hlw, hlt, _⟩ := HRW.out.1 l hlm
      have hF1 := HI.tb.first HI.row hxl
      rw [HI.xb] at hF1
      have HF1 := Hid.mk hF1
      have HFT : Hid (∀ W, Below wr.heap.size wr W → Calls Try.prog 26 #[ptV t, lkV l] W fun e w' => e = .returned (.bool (besB (Dk.abs.held tg) l.al)) ∧ Below W.heap.size W w') := Hid.mk (fun W hB => by
        have := fits_any (HI.tb.below hB) l hlw
        rwa [hlt] at this)
      have HF2 : Hid (∀ W, Below wr.heap.size wr W → Calls Try.prog 32 #[ptV b] W fun e w' => e = .returned (lkV l) ∧ Below W.heap.size W w') := Hid.mk (fun W hB => by
        have := (HI.tb.below hB).first HI.row hxl
        rwa [HI.xb] at this)
      cases hb : besB (Dk.abs.held tg) l.al with
      | false =>
        rw [hb] at HFT
        have HLV : Hid (∀ W, Below wr.heap.size wr W → Calls Try.prog 34 #[ptV t, .int .i64 tg, .slice ao k c] W fun e W9 => e = .returned (.tuple #[]) ∧ Hid (RelTo F w t D (A1.run tg) (A1.runs tg) N (.slice ao k c) W9)) := Hid.mk (rel_end HI (by rw [hl, runN_cons, if_neg (by rw [hb]; simp)]) HA.out HAW.out HRW.out HNUM.out.1 (by have := HNUM.out; omega) HNUM.out.2.2.2)
        clear HI HF2 hxl hlm hF1 hlt hlw
        unfold lkV at *
        go_wp2_with (first
          | (go_at_call 31; refine HE.out.mono ?_; rintro e w3 ⟨rfl, hw3⟩; have hw3' := hw3.symm; clear hw3; subst hw3')
          | (go_at_call 32; refine HF1.out.mono ?_; rintro e w4 ⟨rfl, hB4⟩; have HFU := Hid.mk (HFT.out w4 hB4); have HB4 := Hid.mk hB4; clear hB4 HF1)
          | (go_at_call 26; refine HFU.out.mono ?_; rintro e w5 ⟨rfl, hB5⟩; have HLW := Hid.mk (HLV.out w5 (HB4.out.trans (hB5.mono HB4.out.size))); clear hB5 HFU)
          | (go_at_call 34; refine HLW.out.mono ?_; rintro e w6 ⟨rfl, H6⟩)
          | go_in)
        go_ret
        exact ⟨_, rfl, H6⟩
      | true =>
        rw [hb] at HFT
        have HG := Hid.mk (rel_next HI hl hb hlw hlt (by have := HNUM.out; omega))
        have HK : Hid (k < L0.length) := Hid.mk (by
          rcases Nat.lt_or_ge k L0.length with q | q
          · exact q
          · rw [List.drop_eq_nil_of_le q] at hl; cases hl)
        clear HI hxl hlm hF1 hlt hlw
        unfold lkV at *
        go_wp2_with (first
          | (go_at_call 31; refine HE.out.mono ?_; rintro e w3 ⟨rfl, hw3⟩; have hw3' := hw3.symm; clear hw3; subst hw3')
          | (go_at_call 32; refine HF1.out.mono ?_; rintro e w4 ⟨rfl, hB4⟩; have HFU := Hid.mk (HFT.out w4 hB4); have HB4 := Hid.mk hB4; clear hB4 HF1)
          | (go_at_call 26; refine HFU.out.mono ?_; rintro e w5 ⟨rfl, hB5⟩; have HB5 := Hid.mk (HB4.out.trans (hB5.mono HB4.out.size)); have HFV := Hid.mk (HF2.out w5 HB5.out); clear hB5 HFU HF2)
          | (go_at_call 32; refine HFV.out.mono ?_; rintro e w6 ⟨rfl, hB6⟩; have HGX := Hid.mk (HG.out w6 (HB5.out.trans (hB6.mono HB5.out.size))); clear hB6 HFV HG)
          | (go_at_call 27; refine HGX.out.mono ?_; rintro e w7 ⟨rfl, hF7⟩; have HF7 := Hid.mk hF7; clear hF7 HGX)
          | (go_at_call 32; refine HF7.out.mono ?_; rintro e w8 ⟨rfl, v9, W9, p9, ⟨ao9, c9, rfl⟩, hD9⟩; have HAP := Hid.mk p9; have HD9 := Hid.mk hD9; clear hD9 p9 HF7)
          | (at_builtin; refine wpList_append_known rfl _ _ _ rfl _ _ _ _ rfl rfl HAP.out ?_; simp only [Act.put, List.setIfInBounds_toArray, List.set_cons_zero, List.set_cons_succ])
          | (go_at_call 33; refine HD9.out.mono ?_; rintro e w10 ⟨rfl, F7, D7, x7, H7⟩)
          | go_in)
        go_roundw
        case rel => exact ⟨k + 1, ⟨_, _, rfl⟩, Hid.mk ⟨F7, D7, x7, H7.out⟩⟩
        case measure => (have := HK.out; simp; omega)
end
end Go.Proofs.Ytoediflikoedaaa
