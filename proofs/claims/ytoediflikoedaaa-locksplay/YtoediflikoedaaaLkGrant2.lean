/-
  grant, whoever holds the thing; drop.
-/
import Derived.Test.YtoediflikoedaaaLkGrant
namespace Go.Proofs.Ytoediflikoedaaa
open Go Go.Proofs Go.RowKit Go.Shelf
open Go.ChangeMaps (setBlock)
attribute [local go_sem] Oper.semAt_some
/-- The holders alone have turned. -/
structure SameR (D D' : Td) : Prop where
  hm : D'.hm = D.hm
  rm : D'.rm = D.rm
  wm : D'.wm = D.wm
  nr : D'.nr = D.nr
  nw : D'.nw = D.nw
  rows : D'.rows = D.rows
  waits : D'.waits = D.waits
theorem abs_held {D D' : Td} {i : Int} {o : Option Hx} (h1 : D'.held = updC D.held i o) (h2 : D'.rows = D.rows) (h3 : D'.waits = D.waits) : D'.abs = ⟨updC D.abs.held i (o.map (fun x => (x.S, x.al))), D.abs.rows, D.abs.waits⟩ := by
  unfold Td.abs
  rw [h1, h2, h3, map_updC]
theorem abs_heldN (D : Td) (n : Nat) (i : Int) (o : Option Hx) : Td.abs { D with nh := n, held := updC D.held i o } = ⟨updC D.abs.held i (o.map (fun x => (x.S, x.al))), D.abs.rows, D.abs.waits⟩ := abs_held rfl rfl rfl
theorem abs_at {D : Td} {i : Int} {o : Option Hx} (h : D.held i = o) : D.abs.held i = o.map (fun x => (x.S, x.al)) := by
  show (D.held i).map _ = _
  rw [h]
theorem absr_at {D : Td} {i : Int} {o : Option Rx} (h : D.rows i = o) : D.abs.rows i = o.map (fun x => x.L) := by
  show (D.rows i).map _ = _
  rw [h]
/-- So many hold things at most. -/
def HB (B : Nat) (D : Td) : Prop := D.nh ≤ B ∧ ∀ i x, D.held i = some x → x.S.length ≤ B
section
variable {F : Nat → Prop} {w : World} {t : Nat} {D : Td}
set_option maxRecDepth 100000 in
set_option maxHeartbeats 4000000 in
theorem grant_some (h : TbAt F w t D) (l : Lk) (hl : l.wf) {x : Hx} (hi : D.held l.tg = some x) (hn : x.S.length ≤ 1000000) :
    Calls Try.prog 27 #[ptV t, lkV l] w fun e w' => e = .returned (.tuple #[]) ∧ Hid (TbAt F w' t { D with held := updC D.held l.tg (some { x with S := insS l.th x.S }) } ∧ Only F w w') := by
  obtain ⟨w0, hw0⟩ : ∃ w0, w0 = w.alloc (lkO l) := ⟨_, rfl⟩
  have hs0 : w0.drew.heap.size = w.heap.size + 1 := by rw [hw0]; simp
  have hB0 : Below w.heap.size w w0.drew := by
    have := (Below.refl w.heap.size w).alloc (Nat.le_refl _) (lkO l)
    rw [hw0]
    exact this.trans ((drew_below _).mono (by simp))
  have hB1 : Below w.heap.size w w0.drew.drew := hB0.trans ((drew_below _).mono (by omega))
  have x0 : w0.drew.heap[w.heap.size]? = some (lkO l) := by rw [hw0]; exact blk_new w _
  have x1 : w0.drew.drew.heap[w.heap.size]? = some (lkO l) := x0
  have h0 := h.below hB0
  have h1 := h.below hB1
  have c0 := h0.cells.1
  obtain ⟨_, c2, _⟩ := box_cells (w := w) x0
  have q1 := h0.lookH_some hl.2 hi
  obtain ⟨g2, _, _⟩ := box_cells (w := w) x1
  obtain ⟨⟨_, _, hb⟩, hFm, hml, hs⟩ := h1.hx hi
  have g1 : w0.drew.drew.cell? ⟨x.b, 0, none⟩ = some (.map (some x.m)) := by rw [blk_cell hb]; rfl
  obtain ⟨o2, p2, hS5⟩ := hs.put (by unfold maxLen; omega) hl.1
  obtain ⟨w5, hw5⟩ : ∃ w5, w5 = setBlock w0.drew.drew x.m o2 := ⟨_, rfl⟩
  have hO5 : Only (fun k => k = x.m) w w5 := by rw [hw5]; exact (Only.of_new (fun k => k = x.m) hB1).setBlock (.inl rfl) o2
  have HF : Hid (TbAt F w5 t { D with held := updC D.held l.tg (some { x with S := insS l.th x.S }) } ∧ Only F w w5) := Hid.mk ⟨h.thTurn hi hO5 (by rw [hw5]; exact hS5), hO5.mono (fun k _ hk => by rw [hk]; exact hFm)⟩
  have q2 := eqp_some x.b
  rw [← hw5] at p2
  clear h h0 h1 hB0 hB1 x0 x1 hb hFm hml hs hS5 hO5 hi hn hw5 hs0
  unfold lkO at hw0
  unfold lkV
  go_enter Try.func27, Try.ntmps27
  go_wp2
  rw [← hw0]
  clear hw0
  go_region
  go_wp2
  go_region
  go_wp2
  go_end0
  exact ⟨rfl, HF⟩
theorem grant_any (h : TbAt F w t D) (l : Lk) (hl : l.wf) (hM : D.Made) {B : Nat} (hB : HB B D) (hBm : B ≤ 1000000) :
    Calls Try.prog 27 #[ptV t, lkV l] w fun e w' => e = .returned (.tuple #[]) ∧ ∃ D', Hid (TbAt (Grown F w) w' t D' ∧ Only F w w' ∧ D'.abs = D.abs.grant l ∧ SameR D D' ∧ HB (B + 1) D') := by
  obtain ⟨a, _, _, ha, _⟩ := hM
  cases hi : D.held l.tg with
  | none =>
    refine (grant_none h l hl ha (by have := hB.1; omega) hi).mono ?_
    rintro e w' ⟨rfl, x, hx1, hx2, HQ⟩
    refine ⟨rfl, _, Hid.mk ⟨HQ.out.1, HQ.out.2, ?_, ⟨rfl, rfl, rfl, rfl, rfl, rfl, rfl⟩, ?_⟩⟩
    · refine (abs_heldN D (D.nh + 1) l.tg (some x)).trans ?_
      unfold Ta.grant
      rw [abs_at hi]
      simp [putH, hx1, hx2]
    · refine ⟨by have := hB.1; show D.nh + 1 ≤ B + 1; omega, fun j y hj => ?_⟩
      by_cases e : j = l.tg
      · subst e
        have e1 := (updC_same D.held l.tg (some x)).symm.trans hj
        cases e1
        rw [hx1]
        simp
      · have := hB.2 j y ((updC_other D.held _ e).symm.trans hj)
        omega
  | some x =>
    refine (grant_some h l hl hi (by have := hB.2 _ _ hi; omega)).mono ?_
    rintro e w' ⟨rfl, HQ⟩
    refine ⟨rfl, _, Hid.mk ⟨HQ.out.1.mono (fun k _ hk => .inl hk), HQ.out.2, ?_, ⟨rfl, rfl, rfl, rfl, rfl, rfl, rfl⟩, ?_⟩⟩
    · refine (abs_heldN D D.nh l.tg (some { x with S := insS l.th x.S })).trans ?_
      unfold Ta.grant
      rw [abs_at hi]
      simp [putH]
    · refine ⟨by have := hB.1; show D.nh ≤ B + 1; omega, fun j y hj => ?_⟩
      by_cases e : j = l.tg
      · subst e
        have e1 := (updC_same D.held l.tg (some { x with S := insS l.th x.S })).symm.trans hj
        cases e1
        have h1 := hB.2 _ _ hi
        show (insS l.th x.S).length ≤ B + 1
        by_cases hm : l.th ∈ x.S
        · rw [ins_same (h.hx hi).2.2.2.1.1 hm]; omega
        · rw [ins_length hm]; omega
      · have := hB.2 j y ((updC_other D.held _ e).symm.trans hj)
        omega
set_option maxRecDepth 100000 in
set_option maxHeartbeats 4000000 in
theorem drop_any (h : TbAt F w t D) (th tg : Int) (hth : (Lit.int .i64 th).wf = true) (htg : (Lit.int .i64 tg).wf = true) {x : Hx} (hi : D.held tg = some x) {B : Nat} (hB : HB B D) :
    Calls Try.prog 30 #[ptV t, .int .i64 th, .int .i64 tg] w fun e w' => e = .returned (.tuple #[]) ∧ ∃ D', Hid (TbAt F w' t D' ∧ Only F w w' ∧ D'.abs = D.abs.drop th tg ∧ SameR D D' ∧ HB B D') := by
  have c0 := h.cells.1
  have q1 := h.lookH_some htg hi
  obtain ⟨⟨_, hbl, hb⟩, hFm, hml, hs⟩ := h.hx hi
  have c1 : w.cell? ⟨x.b, 0, none⟩ = some (.map (some x.m)) := by rw [blk_cell hb]; rfl
  obtain ⟨W1, p1, hs1, hO1⟩ := hs.del hth 0
  have hO1' : Only (fun k => k = x.m) w W1 := hO1.mono (fun k _ hk => (Option.some.inj hk).symm)
  have h1 := h.thTurn hi hO1' hs1
  have hi1 : (updC D.held tg (some { x with S := delS th x.S })) tg = some { x with S := delS th x.S } := updC_same _ _ _
  obtain ⟨⟨_, _, hb1⟩, _⟩ := h1.hx hi1
  have d1 : W1.cell? ⟨x.b, 0, none⟩ = some (.map (some x.m)) := by rw [blk_cell hb1]; rfl
  have d0 : W1.cell? ⟨t, 0, none⟩ = some (.map D.hm) := h1.cells.1
  have p2 := hs1.len 3
  have hbd : ∀ j y, updC D.held tg (some { x with S := delS th x.S }) j = some y → y.S.length ≤ B := fun j y hj => by
    by_cases e : j = tg
    · subst e
      have e1 := (updC_same D.held j (some { x with S := delS th x.S })).symm.trans hj
      cases e1
      have h2 := hB.2 _ _ hi
      show (delS th x.S).length ≤ B
      unfold delS
      have := List.length_filter_le (fun y => y != th) x.S
      omega
    · exact hB.2 j y ((updC_other D.held _ e).symm.trans hj)
  cases hd : delS th x.S with
  | cons y r =>
    rw [hd] at p2
    have HF : Hid (TbAt F W1 t { D with held := updC D.held tg (some { x with S := delS th x.S }) } ∧ Only F w W1 ∧ Td.abs { D with held := updC D.held tg (some { x with S := delS th x.S }) } = D.abs.drop th tg ∧ SameR D { D with held := updC D.held tg (some { x with S := delS th x.S }) } ∧ HB B { D with held := updC D.held tg (some { x with S := delS th x.S }) }) := Hid.mk ⟨h1, hO1'.mono (fun k _ hk => by rw [hk]; exact hFm), by
      refine (abs_heldN D D.nh tg (some { x with S := delS th x.S })).trans ?_
      unfold Ta.drop
      rw [abs_at hi]
      simp [dropH, hd], ⟨rfl, rfl, rfl, rfl, rfl, rfl, rfl⟩, hB.1, hbd⟩
    have z1 : ((((y :: r).length : Nat) : Int) == 0) = false := by simp; omega
    clear h h1 hb hs hs1 hO1 hO1' hb1 hbd hB hi hi1 hd hFm hml hbl
    generalize (y :: r).length = n at *
    go_enter Try.func30, Try.ntmps30
    go_wp2
    go_end0
    exact ⟨rfl, _, HF⟩
  | nil =>
    rw [hd] at p2
    cases hh : D.hm with
    | none =>
      have := h.hmapAt
      rw [hh] at this
      have := this.2 (.int .i64 tg)
      rw [intF_int, hi] at this
      cases this
    | some hmb =>
      obtain ⟨o, p3, hm3⟩ := h1.hdel hh htg hi1 0
      obtain ⟨hFb, hbl, _⟩ := h1.hown hh
      have hO3 : Only F W1 (setBlock W1 hmb o) := (Only.refl F W1).setBlock (.inl hFb) o
      have h3 := h1.heldDel hh ((Only.refl (fun k => k = hmb) W1).setBlock (.inl rfl) o) hm3
      have HF : Hid (TbAt F (setBlock W1 hmb o) t { D with nh := D.nh - 1, held := updC (updC D.held tg (some { x with S := delS th x.S })) tg none } ∧ Only F w (setBlock W1 hmb o) ∧ Td.abs { D with nh := D.nh - 1, held := updC (updC D.held tg (some { x with S := delS th x.S })) tg none } = D.abs.drop th tg ∧ SameR D { D with nh := D.nh - 1, held := updC (updC D.held tg (some { x with S := delS th x.S })) tg none } ∧ HB B { D with nh := D.nh - 1, held := updC (updC D.held tg (some { x with S := delS th x.S })) tg none }) := Hid.mk ⟨h3, (hO1'.mono (fun k _ hk => by rw [hk]; exact hFm)).trans hO3 (fun k hk => .inl hk), by
        rw [updC_twice]
        refine (abs_heldN D (D.nh - 1) tg none).trans ?_
        unfold Ta.drop
        rw [abs_at hi]
        simp [dropH, hd], ⟨rfl, rfl, rfl, rfl, rfl, rfl, rfl⟩, by have := hB.1; show D.nh - 1 ≤ B; omega, fun j y hj => by
          by_cases e : j = tg
          · subst e
            have e1 := (updC_same _ j none).symm.trans hj
            cases e1
          · exact hbd j y ((updC_other _ none e).symm.trans hj)⟩
      rw [hh] at c0 d0 q1
      clear h h1 h3 hb hs hs1 hO1 hO1' hO3 hb1 hbd hB hi hi1 hd hFm hml hbl hm3 hFb hh
      go_enter Try.func30, Try.ntmps30
      go_wp2
      go_end0
      exact ⟨rfl, _, HF⟩
end
end Go.Proofs.Ytoediflikoedaaa
