/-
  Ask and Release, whatever is there.
-/
import Derived.Test.YtoediflikoedaaaLkRel2
namespace Go.Proofs.Ytoediflikoedaaa
open Go Go.Proofs Go.RowKit Go.Shelf
attribute [local go_sem] Oper.semAt_some
section
variable {F : Nat → Prop} {w : World} {t : Nat} {D : Td}
theorem ask_any (h : TbAt F w t D) (l : Lk) (hl : l.wf) (hst : D.St) {N : Nat} (hf : Fit N D) (hN : N < 1000000) : Calls Try.prog 11 #[ptV t, lkV l] w fun e w' => e = .returned (.bool (D.abs.askB l)) ∧ ∃ D', Hid (AskTo F w t (D.abs.ask l) N w' D') := by
  have same : ∀ w', Below w.heap.size w w' → AskTo F w t D.abs N w' D := fun w' hB => ⟨(h.below hB).mono (fun k _ q => .inl q), Only.of_new F hB, rfl, hst, hf.mono (by omega)⟩
  cases hw : D.waits l.th with
  | some l' =>
    have e1 : D.abs.ask l = D.abs := by unfold Ta.ask; rw [show D.abs.waits l.th = some l' from hw]; rfl
    have e2 : D.abs.askB l = false := by unfold Ta.askB; rw [show D.abs.waits l.th = some l' from hw]; rfl
    rw [e1, e2]
    refine (ask_waits h l hl hw).mono ?_
    rintro e w' ⟨rfl, hB⟩
    exact ⟨rfl, D, Hid.mk (same w' hB)⟩
  | none =>
    have hw' : D.abs.waits l.th = none := hw
    cases hh : D.abs.holds l.th l.tg with
    | true =>
      have e1 : D.abs.ask l = D.abs := by unfold Ta.ask; rw [hh, hw']; rfl
      have e2 : D.abs.askB l = false := by unfold Ta.askB; rw [hh, hw']; rfl
      rw [e1, e2]
      refine (ask_holds h l hl hw hh).mono ?_
      rintro e w' ⟨rfl, hB⟩
      exact ⟨rfl, D, Hid.mk (same w' hB)⟩
    | false =>
      cases hr : D.abs.rows l.tg with
      | some L =>
        have e1 : D.abs.ask l = D.abs.wait l := by unfold Ta.ask; rw [hh, hw', hr]; rfl
        have e2 : D.abs.askB l = false := by unfold Ta.askB; rw [hh, hw', hr]; rfl
        rw [e1, e2]
        exact ask_row h l hl hst hf hN hw hh hr
      | none =>
        cases hb : besB (D.abs.held l.tg) l.al with
        | false =>
          have e1 : D.abs.ask l = D.abs.wait l := by unfold Ta.ask; rw [hh, hw', hr, hb]; rfl
          have e2 : D.abs.askB l = false := by unfold Ta.askB; rw [hh, hw', hr, hb]; rfl
          rw [e1, e2]
          exact ask_full h l hl hst hf hN hw hh hr hb
        | true =>
          have e1 : D.abs.ask l = D.abs.grant l := by unfold Ta.ask; rw [hh, hw', hr, hb]; rfl
          have e2 : D.abs.askB l = true := by unfold Ta.askB; rw [hh, hw', hr, hb]; rfl
          rw [e1, e2]
          exact ask_grant h l hl hst hf hN hw hh hr hb
set_option maxRecDepth 100000 in
set_option maxHeartbeats 4000000 in
theorem rel_norow (h : TbAt F w t D) (th tg : Int) (hth : (Lit.int .i64 th).wf = true) (htg : (Lit.int .i64 tg).wf = true) (hst : D.St) {N : Nat} (hf : Fit N D) (hh : D.abs.holds th tg = true) (hi : D.rows tg = none) :
    Calls Try.prog 14 #[ptV t, .int .i64 th, .int .i64 tg] w fun e w' => e = .returned (.slice none 0 0) ∧ Hid (RelTo F w t D ((D.abs.drop th tg).run tg) [] N (.slice none 0 0) w') := by
  obtain ⟨y, hy⟩ := holds_some hh
  have hM := St.made hst hy
  obtain ⟨⟨B, hB1, hB2⟩, hR⟩ := hf
  have HH := Hid.mk (holds_any h th tg hth htg)
  rw [hh] at HH
  have HDROP : Hid (∀ w1, Below w.heap.size w w1 → Calls Try.prog 30 #[ptV t, .int .i64 th, .int .i64 tg] w1 fun e w2 => e = .returned (.tuple #[]) ∧ w2.cell? ⟨t, 1, none⟩ = some (.map D.rm) ∧ (Instr.lookup 51 (.map D.rm) (.int .i64 tg) false).run Try.prog w2 = .ok (.pointer none) w2 ∧ Hid (Calls Try.prog 34 #[ptV t, .int .i64 tg, .slice none 0 0] w2 fun e w3 => e = .returned (.tuple #[]) ∧ Hid (RelTo F w t D ((D.abs.drop th tg).run tg) [] N (.slice none 0 0) w3))) := Hid.mk (fun w1 hBw => by
    refine (drop_any (h.old.below hBw) th tg hth htg hy hB1).mono ?_
    rintro e w2 ⟨rfl, D', HQ⟩
    obtain ⟨a1, a2, a3, a4, a5⟩ := HQ.out
    have hr' : D'.rows tg = none := by rw [a4.rows]; exact hi
    have c1 := a1.cells.2.1
    have q1 := a1.lookR_none htg hr'
    rw [a4.rm] at c1 q1
    have hM' : D'.Made := by
      obtain ⟨p, q, s, h1, h2, h3⟩ := hM
      exact ⟨p, q, s, a4.hm.trans h1, a4.rm.trans h2, a4.wm.trans h3⟩
    refine ⟨rfl, c1, q1, Hid.mk ?_⟩
    refine (leave_any a1 hM' tg htg none 0 [] (.inl ⟨rfl, rfl⟩) (fun g hg => by cases hg) (by simp) (fun l hl => by cases hl) (by simp)).mono ?_
    rintro e w3 ⟨rfl, D3, HQ3⟩
    obtain ⟨b1, b2, b3, b4, b5, b6⟩ := HQ3.out
    refine ⟨rfl, Hid.mk ⟨.inl ⟨rfl, rfl⟩, fun g hg => (by cases hg), ((Only.of_new F hBw).trans a2 (fun j hj => .inl hj.1)).trans b2 (fun j hj => .inl hj.1), D3, b1.mono (fun j _ hj => ⟨.inl hj.1, fun e => by cases e⟩), ?_, ⟨⟨B, ⟨by rw [b4.nh]; exact a5.1, fun i y hy => by rw [b4.held] at hy; exact a5.2 i y hy⟩, ?_⟩, b6 N ⟨by rw [a4.nr]; exact hR.1, fun i z hz => by rw [a4.rows] at hz; exact hR.2 i z hz⟩⟩, ?_, ?_, ?_⟩⟩
    · have e0 : (D.abs.drop th tg).rows tg = none := absr_at hi
      have e1 : D'.abs.rows tg = none := absr_at hr'
      rw [b3, e1]
      unfold Ta.run
      rw [e0]
      have e2 : D'.waits = (D.abs.drop th tg).waits := a4.waits
      have e3 : D'.abs.rows = (D.abs.drop th tg).rows := by rw [a3]
      simp only [Option.getD_none, runH, List.take_nil, leftR, cleanR, a3]
      rw [e2, updC_id (D.abs.drop th tg).held tg _ rfl]
    · rw [← a4.nw] at hB2
      have : D3.nw + 0 = D'.nw := b5
      omega
    · obtain ⟨p, q, s, h1, h2, h3⟩ := hM'
      exact ⟨p, q, s, b4.hm.trans h1, b4.rm.trans h2, b4.wm.trans h3⟩
    · exact b5.trans a4.nw
    · exact b4.wm.trans a4.wm)
  have q2 := ner_none
  clear h hst hM hB1 hB2 hR hy hh hi hth htg
  go_enter Try.func14, Try.ntmps14
  go_wp2_with (first
    | (go_at_call 19; refine HH.out.mono ?_; rintro e w1 ⟨rfl, hB1⟩; have HD := Hid.mk (HDROP.out w1 hB1); clear hB1 HDROP HH)
    | (go_at_call 30; refine HD.out.mono ?_; rintro e w2 ⟨rfl, c1, q1, HLV⟩; clear HD)
    | go_in)
  go_loopw [7] (fun u wr => u = .slice none 0 0 ∧ wr = w2) (fun _ _ => 0)
  case atStart => exact ⟨rfl, rfl⟩
  case round =>
    obtain ⟨rfl, rfl⟩ := hrel
    go_wp2_with (first
      | (go_at_call 34; refine HLV.out.out.mono ?_; rintro e w4 ⟨rfl, H4⟩)
      | (go_at_call 34; refine HLV.out.mono ?_; rintro e w4 ⟨rfl, H4⟩)
      | go_in)
    go_ret
    exact ⟨rfl, H4⟩
theorem rel_any (h : TbAt F w t D) (th tg : Int) (hth : (Lit.int .i64 th).wf = true) (htg : (Lit.int .i64 tg).wf = true) (hst : D.St) {N : Nat} (hf : Fit N D) (hN : N ≤ 400000) (hok : ∀ x, D.rows tg = some x → RowOk D tg x.L) :
    Calls Try.prog 14 #[ptV t, .int .i64 th, .int .i64 tg] w fun e w' => ∃ u, e = .returned u ∧ Hid (SlOk w' u (D.abs.relL th tg) ∧ (∀ g, u.ownBlock = some g → w.heap.size ≤ g) ∧ Only F w w' ∧ ∃ D', TbAt (fun j => Grown F w j ∧ u.ownBlock ≠ some j) w' t D' ∧ D'.abs = D.abs.rel th tg ∧ Fit N D' ∧ D'.St ∧ D'.nw + (D.abs.relL th tg).length = D.nw ∧ D'.wm = D.wm) := by
  cases hh : D.abs.holds th tg with
  | false =>
    refine (rel_no h th tg hth htg hh).mono ?_
    rintro e w' ⟨rfl, hB⟩
    refine ⟨_, rfl, Hid.mk ⟨.inl ⟨rfl, ?_⟩, fun g hg => (by cases hg), Only.of_new F hB, D, (h.below hB).mono (fun j _ hj => ⟨.inl hj, fun e => by cases e⟩), ?_, hf, hst, ?_, rfl⟩⟩
    · unfold Ta.relL; rw [hh]; rfl
    · unfold Ta.rel; rw [hh]; rfl
    · unfold Ta.relL; rw [hh]; rfl
  | true =>
    have e1 : D.abs.relL th tg = (D.abs.drop th tg).runs tg := by unfold Ta.relL; rw [hh]; rfl
    have e2 : D.abs.rel th tg = (D.abs.drop th tg).run tg := by unfold Ta.rel; rw [hh]; rfl
    rw [e1, e2]
    cases hi : D.rows tg with
    | none =>
      have e3 : (D.abs.drop th tg).runs tg = [] := by
        have e0 : (D.abs.drop th tg).rows tg = none := absr_at hi
        unfold Ta.runs
        rw [e0]
        rfl
      rw [e3]
      refine (rel_norow h th tg hth htg hst hf hh hi).mono ?_
      rintro e w' ⟨rfl, HQ⟩
      obtain ⟨a1, a2, a3, D', a4, a5, a6, a7, a8, a9⟩ := HQ.out
      exact ⟨_, rfl, Hid.mk ⟨a1, a2, a3, D', a4, a5, a6, .inr a7, a8, a9⟩⟩
    | some x =>
      refine (rel_row h th tg hth htg hst hf hN hh hi (hok x hi)).mono ?_
      rintro e w' ⟨u, rfl, HQ⟩
      obtain ⟨a1, a2, a3, D', a4, a5, a6, a7, a8, a9⟩ := HQ.out
      exact ⟨u, rfl, Hid.mk ⟨a1, a2, a3, D', a4, a5, a6, .inr a7, a8, a9⟩⟩
end
end Go.Proofs.Ytoediflikoedaaa
