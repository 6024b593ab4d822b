/-
  A lock is set behind all others of its thing's row: wait.
-/
import Derived.Test.YtoediflikoedaaaLkGrant2
namespace Go.Proofs.Ytoediflikoedaaa
open Go Go.Proofs Go.RowKit Go.Shelf
open Go.ChangeMaps (setBlock)
attribute [local go_sem] Oper.semAt_some
/-- The rows, and who waits, alone have turned. -/
structure SameH (D D' : Td) : Prop where
  hm : D'.hm = D.hm
  rm : D'.rm = D.rm
  wm : D'.wm = D.wm
  nh : D'.nh = D.nh
  held : D'.held = D.held
def RB (B : Nat) (D : Td) : Prop := D.nr ≤ B ∧ ∀ i x, D.rows i = some x → x.L.length ≤ B
theorem abs_rows (D : Td) (nr nw : Nat) (i : Int) (o : Option Rx) (f : Int → Option Lk) : Td.abs { D with nr := nr, nw := nw, rows := updC D.rows i o, waits := f } = ⟨D.abs.held, updC D.abs.rows i (o.map (fun x => x.L)), f⟩ := by
  unfold Td.abs
  simp only [map_updC]
section
variable {F : Nat → Prop} {w : World} {t : Nat} {D : Td}
theorem TbAt.slOk (h : TbAt F w t D) {i : Int} {x : Rx} (hi : D.rows i = some x) : SlOk w x.v x.L ∧ x.v.ownBlock ≠ some x.b ∧ (∀ g, x.v.ownBlock = some g → F g) := by
  rcases (h.rx hi).2 with ⟨e1, e2⟩ | ⟨g, e1, e2, e3, e4, e5⟩
  · exact ⟨.inl ⟨e1, e2⟩, by rw [e1]; intro q; (cases q), fun g q => by rw [e1] at q; cases q⟩
  · exact ⟨.inr ⟨g, e1, e5⟩, by rw [e1]; intro q; exact e2 (Option.some.inj q), fun g' q => by rw [e1] at q; cases q; exact e3⟩
/-- What comes behind the row: the call of push, and who waits. -/
theorem wait_tail (h : TbAt F w t D) (l : Lk) (hl : l.wf) (hM : D.Made) {x : Rx} (hi : D.rows l.tg = some x) (hw : D.waits l.th = none) (hnw : D.nw ≤ 1000000) {w3 : World} {v' : Value} {g' : Nat}
    (hb : w3.heap[x.b]? = some (.cells #[v'] 76 (0, 0))) (hg : v'.ownBlock = some g') (hR : RwAt w3 g' v' (x.L ++ [l])) (hgn : x.v.ownBlock = some g' ∨ w.heap.size ≤ g') (hgl : g' < w3.heap.size) (hO : Only (fun k => k = x.b ∨ k = g') w w3) :
    ∃ wb o, D.wm = some wb ∧ w3.drew.cell? ⟨t, 2, none⟩ = some (.map (some wb)) ∧ (Instr.mapUpdate 52 (.map (some wb)) (.int .i64 l.th) (lkV l)).run Try.prog w3.drew = .ok () (setBlock w3.drew wb o) ∧
      ∃ D', Hid (TbAt (Grown F w) (setBlock w3.drew wb o) t D' ∧ Only F w (setBlock w3.drew wb o) ∧ D'.abs = ⟨D.abs.held, updC D.abs.rows l.tg (some (x.L ++ [l])), updC D.abs.waits l.th (some l)⟩ ∧ SameH D D' ∧ D'.nw = D.nw + 1 ∧ D'.nr = D.nr ∧ ∀ j y, D'.rows j = some y → y.L = x.L ++ [l] ∨ D.rows j = some y) := by
  obtain ⟨_, _, wb, _, _, hwb⟩ := hM
  have h3 := h.rowTurn hi hO hb hg hgn hgl hR
  have h4 := h3.below (drew_below w3)
  obtain ⟨o, p, hm⟩ := h4.wput hwb hnw hl.1 hw l
  have hFg : ∀ k, k < w.heap.size → k = g' → F k := fun k hk e => by
    subst e
    rcases hgn with q | q
    · exact (h.slOk hi).2.2 _ q
    · omega
  have hFw : F wb := (h.wown hwb).1
  have h5 := h4.waitTurn hwb ((Only.refl (fun k => k = wb) w3.drew).setBlock (.inl rfl) o) hm
  have c2 : w3.drew.cell? ⟨t, 2, none⟩ = some (.map D.wm) := h4.cells.2.2
  rw [hwb] at c2
  refine ⟨wb, o, hwb, c2, p, _, Hid.mk ⟨h5, ?_, abs_rows D _ _ _ _ _, ⟨rfl, rfl, rfl, rfl, rfl⟩, rfl, rfl, fun j y hj => ?_⟩⟩
  · exact ((hO.mono (fun k hk q => q.elim (fun q => by rw [q]; exact (h.rx hi).1.1) (hFg k hk))).drew).setBlock (.inl hFw) o
  · by_cases e : j = l.tg
    · subst e
      have e1 := (updC_same D.rows l.tg (some ⟨x.b, v', x.L ++ [l]⟩)).symm.trans hj
      cases e1
      exact .inl rfl
    · exact .inr ((updC_other D.rows _ e).symm.trans hj)
set_option maxRecDepth 100000 in
set_option maxHeartbeats 4000000 in
theorem wait_some (h : TbAt F w t D) (l : Lk) (hl : l.wf) (hM : D.Made) {x : Rx} (hi : D.rows l.tg = some x) (hw : D.waits l.th = none) (hnw : D.nw ≤ 1000000) (hn : x.L.length ≤ 1000000) :
    Calls Try.prog 28 #[ptV t, lkV l] w fun e w' => e = .returned (.tuple #[]) ∧ ∃ D', Hid (TbAt (Grown F w) w' t D' ∧ Only F w w' ∧ D'.abs = ⟨D.abs.held, updC D.abs.rows l.tg (some (x.L ++ [l])), updC D.abs.waits l.th (some l)⟩ ∧ SameH D D' ∧ D'.nw = D.nw + 1 ∧ D'.nr = D.nr ∧ ∀ j y, D'.rows j = some y → y.L = x.L ++ [l] ∨ D.rows j = some y) := by
  obtain ⟨w0, hw0⟩ : ∃ w0, w0 = w.alloc (lkO l) := ⟨_, rfl⟩
  have hs0 : w0.drew.heap.size = w.heap.size + 1 := by rw [hw0]; simp
  have hB0 : Below w.heap.size w w0.drew := by
    have := (Below.refl w.heap.size w).alloc (Nat.le_refl _) (lkO l)
    rw [hw0]
    exact this.trans ((drew_below _).mono (by simp))
  have x0 : w0.drew.heap[w.heap.size]? = some (lkO l) := by rw [hw0]; exact blk_new w _
  have h0 := h.below hB0
  have c0 := h0.cells.2.1
  obtain ⟨c1, c2, c3⟩ := box_cells (w := w) x0
  have q1 := h0.lookR_some hl.2 hi
  have q2 := eqr_some x.b
  obtain ⟨hsl, hne, hFg⟩ := h0.slOk hi
  have HP := Hid.mk (push_any w0.drew x.b x.v x.L l (h0.rx hi).1.2.2 hsl hne hn)
  have HK : Hid (∀ w3 v' g', Hid (w3.heap[x.b]? = some (.cells #[v'] 76 (0, 0)) ∧ v'.ownBlock = some g' ∧ RwAt w3 g' v' (x.L ++ [l]) ∧ (x.v.ownBlock = some g' ∨ w0.drew.heap.size ≤ g') ∧ g' < w3.heap.size ∧ g' ≠ x.b ∧ Only (fun k => k = x.b ∨ k = g') w0.drew w3) →
      (w3.drew.cell? ⟨w.heap.size, 0, none⟩ = some (.int .i64 l.th) ∧ w3.drew.cell? ⟨w.heap.size, 1, none⟩ = some (.int .i64 l.tg) ∧ w3.drew.cell? ⟨w.heap.size, 2, none⟩ = some (.bool l.al)) ∧ ∃ wb o, D.wm = some wb ∧ w3.drew.cell? ⟨t, 2, none⟩ = some (.map (some wb)) ∧ (Instr.mapUpdate 52 (.map (some wb)) (.int .i64 l.th) (lkV l)).run Try.prog w3.drew = .ok () (setBlock w3.drew wb o) ∧
      ∃ D', Hid (TbAt (Grown F w) (setBlock w3.drew wb o) t D' ∧ Only F w (setBlock w3.drew wb o) ∧ D'.abs = ⟨D.abs.held, updC D.abs.rows l.tg (some (x.L ++ [l])), updC D.abs.waits l.th (some l)⟩ ∧ SameH D D' ∧ D'.nw = D.nw + 1 ∧ D'.nr = D.nr ∧ ∀ j y, D'.rows j = some y → y.L = x.L ++ [l] ∨ D.rows j = some y)) := Hid.mk (fun w3 v' g' HQ => by
    obtain ⟨a1, a2, a3, a4, a5, a6, a7⟩ := HQ.out
    refine ⟨box_cells (w := w) (W := w3.drew) ?_, ?_⟩
    · refine (a7.block _ (by omega) (fun q => ?_)).trans x0
      rcases q with q | q
      · have := (h.rx hi).1.2.1; omega
      · rcases a4 with a4 | a4
        · have := (h.slOk hi).1.lt a4; omega
        · omega
    · obtain ⟨wb, o, b1, b2, b3, D', HD⟩ := wait_tail h0 l hl hM hi hw hnw a1 a2 a3 a4 a5 a7
      refine ⟨wb, o, b1, b2, b3, D', Hid.mk ⟨HD.out.1.mono (fun k _ hk => hk.imp (fun q => q) (fun q => by omega)), ?_, HD.out.2.2⟩⟩
      exact (Only.of_new F hB0).trans HD.out.2.1 (fun k hk => .inl hk))
  clear h h0 hB0 x0 hsl hne hFg hi hw hnw hn hM hs0
  unfold lkO at hw0
  unfold lkV at *
  go_enter Try.func28, Try.ntmps28
  go_wp2
  rw [← hw0]
  clear hw0
  go_region
  go_wp2_with (first
    | (go_at_call 42; refine HP.out.mono ?_; rintro e w3 ⟨rfl, v', g', HQ⟩; obtain ⟨⟨d1, d2, d3⟩, wb, o, hwm, d4, p5, D', HF⟩ := HK.out w3 v' g' HQ; clear HK HP HQ)
    | go_in)
  go_region
  go_wp2
  go_end0
  exact ⟨rfl, _, HF⟩
set_option maxRecDepth 100000 in
set_option maxHeartbeats 4000000 in
theorem wait_none (h : TbAt F w t D) (l : Lk) (hl : l.wf) (hM : D.Made) (hi : D.rows l.tg = none) (hw : D.waits l.th = none) (hnw : D.nw ≤ 1000000) (hnr : D.nr ≤ 1000000) :
    Calls Try.prog 28 #[ptV t, lkV l] w fun e w' => e = .returned (.tuple #[]) ∧ ∃ D', Hid (TbAt (Grown F w) w' t D' ∧ Only F w w' ∧ D'.abs = ⟨D.abs.held, updC D.abs.rows l.tg (some [l]), updC D.abs.waits l.th (some l)⟩ ∧ SameH D D' ∧ D'.nw = D.nw + 1 ∧ D'.nr = D.nr + 1 ∧ ∀ j y, D'.rows j = some y → y.L = [l] ∨ D.rows j = some y) := by
  obtain ⟨w0, hw0⟩ : ∃ w0, w0 = w.alloc (lkO l) := ⟨_, rfl⟩
  have hs0 : w0.drew.heap.size = w.heap.size + 1 := by rw [hw0]; simp
  have hB0 : Below w.heap.size w w0.drew := by
    have := (Below.refl w.heap.size w).alloc (Nat.le_refl _) (lkO l)
    rw [hw0]
    exact this.trans ((drew_below _).mono (by simp))
  have x0 : w0.drew.heap[w.heap.size]? = some (lkO l) := by rw [hw0]; exact blk_new w _
  have h0 := h.below hB0
  have c0 := h0.cells.2.1
  obtain ⟨c1, c2, c3⟩ := box_cells (w := w) x0
  have q1 := h0.lookR_none hl.2 hi
  have q2 := eqr_none
  have hM' := hM
  obtain ⟨_, rb, _, _, hrb, _⟩ := hM'
  obtain ⟨w1, hw1⟩ : ∃ w1, w1 = w0.drew.alloc (.cells #[.slice none 0 0] 76) := ⟨_, rfl⟩
  have hs1 : w1.drew.heap.size = w.heap.size + 2 := by rw [hw1]; show (w0.drew.alloc _).heap.size = _; simp [hs0]
  have hB1 : Below w0.drew.heap.size w0.drew w1.drew := by
    rw [hw1]
    exact ((Below.refl w0.drew.heap.size w0.drew).alloc (Nat.le_refl _) _).trans ((drew_below _).mono (by simp))
  have y1 : w1.drew.heap[w.heap.size + 1]? = some (.cells #[.slice none 0 0] 76) := by rw [← hs0, hw1]; exact blk_new w0.drew _
  have x1 : w1.drew.heap[w.heap.size]? = some (lkO l) := (hB1.block _ (by omega)).trans x0
  have h1 := h0.below hB1
  have e0 := h1.cells.2.1
  rw [hrb] at e0 c0 q1
  obtain ⟨_, e2, _⟩ := box_cells (w := w) x1
  obtain ⟨o1, p1, hm1⟩ := h1.rput hrb hnr hl.2 hi (w.heap.size + 1)
  obtain ⟨hFr, hrl, hrt⟩ := h.rown hrb
  obtain ⟨w2, hw2⟩ : ∃ w2, w2 = setBlock w1.drew rb o1 := ⟨_, rfl⟩
  have k2 : ∀ k, k ≠ rb → w2.heap[k]? = w1.drew.heap[k]? := fun k hk => by rw [hw2]; exact heap_set_other hk
  have hs2 : w2.heap.size = w.heap.size + 2 := by rw [hw2, size_setBlock]; exact hs1
  have hO2 : Only (fun k => k = rb) w w2 := by
    rw [hw2]
    exact ((Only.of_new (fun k => k = rb) hB0).trans (Only.of_new (fun _ => False) hB1) (fun _ q => q.elim)).setBlock (.inl rfl) o1
  have h2 : TbAt (Grown F w) w2 t { D with nr := D.nr + 1, rows := updC D.rows l.tg (some ⟨w.heap.size + 1, .slice none 0 0, []⟩) } := h.rowAdd hrb hi hO2 (by omega) (by omega) (fun k hk => .inl hk) (.inr (by omega)) ((k2 _ (by omega)).trans y1) (by rw [hw2]; exact hm1)
  have x2 : w2.heap[w.heap.size]? = some (lkO l) := (k2 _ (by omega)).trans x1
  obtain ⟨f1, f2, f3⟩ := box_cells (w := w) x2
  have hi2 : (updC D.rows l.tg (some ⟨w.heap.size + 1, .slice none 0 0, []⟩)) l.tg = some ⟨w.heap.size + 1, .slice none 0 0, []⟩ := updC_same _ _ _
  have HP := Hid.mk (push_any w2 (w.heap.size + 1) (.slice none 0 0) [] l ((k2 _ (by omega)).trans y1) (.inl ⟨rfl, rfl⟩) (fun q => by cases q) (by simp))
  have HK : Hid (∀ w3 v' g', Hid (w3.heap[w.heap.size + 1]? = some (.cells #[v'] 76 (0, 0)) ∧ v'.ownBlock = some g' ∧ RwAt w3 g' v' ([] ++ [l]) ∧ ((Value.slice none 0 0).ownBlock = some g' ∨ w2.heap.size ≤ g') ∧ g' < w3.heap.size ∧ g' ≠ w.heap.size + 1 ∧ Only (fun k => k = w.heap.size + 1 ∨ k = g') w2 w3) →
      (w3.drew.cell? ⟨w.heap.size, 0, none⟩ = some (.int .i64 l.th) ∧ w3.drew.cell? ⟨w.heap.size, 1, none⟩ = some (.int .i64 l.tg) ∧ w3.drew.cell? ⟨w.heap.size, 2, none⟩ = some (.bool l.al)) ∧ ∃ wb o, D.wm = some wb ∧ w3.drew.cell? ⟨t, 2, none⟩ = some (.map (some wb)) ∧ (Instr.mapUpdate 52 (.map (some wb)) (.int .i64 l.th) (lkV l)).run Try.prog w3.drew = .ok () (setBlock w3.drew wb o) ∧
      ∃ D', Hid (TbAt (Grown F w) (setBlock w3.drew wb o) t D' ∧ Only F w (setBlock w3.drew wb o) ∧ D'.abs = ⟨D.abs.held, updC D.abs.rows l.tg (some [l]), updC D.abs.waits l.th (some l)⟩ ∧ SameH D D' ∧ D'.nw = D.nw + 1 ∧ D'.nr = D.nr + 1 ∧ ∀ j y, D'.rows j = some y → y.L = [l] ∨ D.rows j = some y)) := Hid.mk (fun w3 v' g' HQ => by
    obtain ⟨a1, a2, a3, a4, a5, a6, a7⟩ := HQ.out
    refine ⟨box_cells (w := w) (W := w3.drew) ?_, ?_⟩
    · refine (a7.block _ (by omega) (fun q => ?_)).trans x2
      rcases q with q | q
      · omega
      · rcases a4 with a4 | a4
        · cases a4
        · omega
    · obtain ⟨wb, o, b1, b2, b3, D', HD⟩ := wait_tail h2 l hl hM hi2 hw hnw a1 a2 a3 a4 a5 a7
      refine ⟨wb, o, b1, b2, b3, D', Hid.mk ⟨HD.out.1.mono (fun k _ hk => hk.elim (fun q => q) (fun q => .inr (by omega))), ?_, ?_, ⟨HD.out.2.2.2.1.hm, HD.out.2.2.2.1.rm, HD.out.2.2.2.1.wm, HD.out.2.2.2.1.nh, HD.out.2.2.2.1.held⟩, HD.out.2.2.2.2.1, HD.out.2.2.2.2.2.1, ?_⟩⟩
      · exact (hO2.mono (fun k _ q => by rw [q]; exact hFr) : Only F w w2).trans HD.out.2.1 (fun k hk => hk.imp (fun q => q) (fun q => q))
      · rw [HD.out.2.2.1]
        have := abs_rows D (D.nr + 1) D.nw l.tg (some ⟨w.heap.size + 1, .slice none 0 0, []⟩) D.waits
        rw [this]
        show Ta.mk D.abs.held (updC (updC D.abs.rows l.tg (some [])) l.tg (some [l])) (updC D.waits l.th (some l)) = _
        rw [updC_twice]
        rfl
      · intro j y hj
        rcases HD.out.2.2.2.2.2.2 j y hj with q | q
        · exact .inl q
        · by_cases e : j = l.tg
          · subst e
            have e1 := hi2.symm.trans q
            cases e1
            rcases HD.out.2.2.1 with q3
            have q4 : (D'.rows l.tg).map (fun z => z.L) = some ([] ++ [l]) := by
              have := congrArg (fun A => A.rows l.tg) q3
              simpa [Td.abs, updC_same] using this
            rw [hj] at q4
            simp at q4
          · exact .inr ((updC_other D.rows _ e).symm.trans q))
  rw [← hw2] at p1
  clear h h0 h1 h2 hB0 hB1 x0 x1 x2 y1 hm1 k2 hO2 hi hi2 hw hnw hnr hM hs1 hs2 hw2 hFr hrl hrt
  unfold lkO at hw0
  unfold lkV at *
  go_enter Try.func28, Try.ntmps28
  go_wp2
  rw [← hw0]
  clear hw0
  go_region
  go_wp2
  have hw1' : w1 = (w0.alloc (.cells #[.slice none 0 0] 76)).drew := hw1
  rw [← hw1']
  clear hw1 hw1'
  go_region
  go_wp2_with (first
    | (go_at_call 42; refine HP.out.mono ?_; rintro e w3 ⟨rfl, v', g', HQ⟩; obtain ⟨⟨d1, d2, d3⟩, wb, o, hwm, d4, p5, D', HF⟩ := HK.out w3 v' g' HQ; clear HK HP HQ)
    | go_in)
  go_region
  go_wp2
  go_end0
  exact ⟨rfl, _, HF⟩
theorem wait_any (h : TbAt F w t D) (l : Lk) (hl : l.wf) (hM : D.Made) (hw : D.waits l.th = none) (hnw : D.nw ≤ 1000000) {B : Nat} (hB : RB B D) (hBm : B ≤ 1000000) :
    Calls Try.prog 28 #[ptV t, lkV l] w fun e w' => e = .returned (.tuple #[]) ∧ ∃ D', Hid (TbAt (Grown F w) w' t D' ∧ Only F w w' ∧ D'.abs = D.abs.wait l ∧ SameH D D' ∧ D'.nw = D.nw + 1 ∧ RB (B + 1) D') := by
  cases hi : D.rows l.tg with
  | none =>
    refine (wait_none h l hl hM hi hw hnw (by have := hB.1; omega)).mono ?_
    rintro e w' ⟨rfl, D', HQ⟩
    obtain ⟨a1, a2, a3, a4, a5, a6, a7⟩ := HQ.out
    refine ⟨rfl, D', Hid.mk ⟨a1, a2, ?_, a4, a5, by have := hB.1; omega, fun j y hj => ?_⟩⟩
    · rw [a3]
      unfold Ta.wait
      rw [absr_at hi]
      rfl
    · rcases a7 j y hj with q | q
      · rw [q]; simp
      · have := hB.2 j y q; omega
  | some x =>
    have hx := hB.2 _ _ hi
    refine (wait_some h l hl hM hi hw hnw (by omega)).mono ?_
    rintro e w' ⟨rfl, D', HQ⟩
    obtain ⟨a1, a2, a3, a4, a5, a6, a7⟩ := HQ.out
    refine ⟨rfl, D', Hid.mk ⟨a1, a2, ?_, a4, a5, by have := hB.1; omega, fun j y hj => ?_⟩⟩
    · rw [a3]
      unfold Ta.wait
      rw [absr_at hi]
      rfl
    · rcases a7 j y hj with q | q
      · rw [q]; simp; omega
      · have := hB.2 j y q; omega
end
end Go.Proofs.Ytoediflikoedaaa
