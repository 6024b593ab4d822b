/-
  Release.
-/
import Derived.Test.YtoediflikoedaaaLkLeave
namespace Go.Proofs.Ytoediflikoedaaa
open Go Go.Proofs Go.RowKit Go.Shelf
open Go.ChangeMaps (setBlock)
attribute [local go_sem] Oper.semAt_some
/-- Those of a row wait for that thing, each once. -/
def RowOk (D : Td) (tg : Int) (L : List Lk) : Prop := (∀ l ∈ L, l.wf ∧ l.tg = tg ∧ (D.waits l.th).isSome = true) ∧ (L.map Lk.th).Nodup
/-- Between two that are granted. -/
structure RelI (F : Nat → Prop) (w : World) (t : Nat) (D : Td) (A1 : Ta) (tg : Int) (b : Nat) (L0 : List Lk) (B N : Nat) (k : Nat) (u : Value) (wr : World) (Fk : Nat → Prop) (Dk : Td) (x : Rx) : Prop where
  tb : TbAt Fk wr t Dk
  sub : ∀ j, Fk j → Grown F w j
  only : Only F w wr
  sl : SlOk wr u (L0.take k)
  sep : ∀ g, u.ownBlock = some g → ¬ Fk g ∧ w.heap.size ≤ g
  row : Dk.rows tg = some x
  xb : x.b = b
  xL : x.L = L0.drop k
  held : ∀ i, i ≠ tg → Dk.abs.held i = A1.held i
  rows : ∀ i, i ≠ tg → Dk.abs.rows i = A1.rows i
  waits : Dk.waits = A1.waits
  rn : runN (Dk.abs.held tg) (L0.drop k) + k = runN (A1.held tg) L0
  rh : runH (Dk.abs.held tg) (L0.drop k) = runH (A1.held tg) L0
  le : k ≤ L0.length
  hb : HB (B + k) Dk
  nw : Dk.nw = D.nw
  wm : Dk.wm = D.wm
  made : Dk.Made
  rb : RB N Dk
theorem runN_cons (h : Option (List Int × Bool)) (l : Lk) (r : List Lk) : runN h (l :: r) = if besB h l.al then runN (some (putH h l)) r + 1 else 0 := rfl
theorem runH_cons (h : Option (List Int × Bool)) (l : Lk) (r : List Lk) : runH h (l :: r) = if besB h l.al then runH (some (putH h l)) r else h := rfl
theorem runH_stop {h : Option (List Int × Bool)} {L : List Lk} (e : runN h L = 0) : runH h L = h := by
  cases L with
  | nil => rfl
  | cons l r =>
    unfold runN at e
    unfold runH
    split at e
    · omega
    · rename_i q
      rw [if_neg q]
theorem clean_left (L : List Lk) (n : Nat) : cleanR (some (L.drop n)) = leftR (some L) n := by
  unfold leftR
  by_cases h : L.length ≤ n
  · simp only [if_pos h]
    rw [List.drop_eq_nil_of_le h]
    rfl
  · simp only [if_neg h]
    cases e : L.drop n with
    | nil =>
      have := congrArg List.length e
      rw [List.length_drop] at this
      simp at this
      omega
    | cons a r => rfl
/-- What Release has to its end. -/
def RelTo (F : Nat → Prop) (w : World) (t : Nat) (D : Td) (A : Ta) (G : List Lk) (N : Nat) (u : Value) (w' : World) : Prop := SlOk w' u G ∧ (∀ g, u.ownBlock = some g → w.heap.size ≤ g) ∧ Only F w w' ∧ ∃ D', TbAt (fun j => Grown F w j ∧ u.ownBlock ≠ some j) w' t D' ∧ D'.abs = A ∧ Fit N D' ∧ D'.Made ∧ D'.nw + G.length = D.nw ∧ D'.wm = D.wm
section
variable {F : Nat → Prop} {w : World} {t : Nat} {D : Td} {A1 : Ta} {tg : Int} {b : Nat} {L0 : List Lk} {B N k : Nat} {u : Value} {wr : World} {Fk : Nat → Prop} {Dk : Td} {x : Rx}
theorem rel_next (HI : RelI F w t D A1 tg b L0 B N k u wr Fk Dk x) {l : Lk} {r : List Lk} (hl : L0.drop k = l :: r) (hb : besB (Dk.abs.held tg) l.al = true) (hw : l.wf) (htg : l.tg = tg) (hBN : B + L0.length ≤ 1000000) :
    ∀ W, Below wr.heap.size wr W → Calls Try.prog 27 #[ptV t, lkV l] W fun e W4 => e = .returned (.tuple #[]) ∧ (Calls Try.prog 32 #[ptV b] W4 fun e W5 => e = .returned (lkV l) ∧ ∃ v' W6, (Builtin.append_ #[27, 27] 27 #[u, .slice (some ⟨W5.heap.size, 0, none⟩) 1 1]).run Try.prog (W5.alloc (.cells #[.int .i64 l.th, .int .i64 l.tg, .bool l.al] 31)) = .ok v' W6 ∧ (∃ ao c, v' = .slice ao (k + 1) c) ∧
      Calls Try.prog 33 #[ptV b] W6 fun e W7 => e = .returned (.tuple #[]) ∧ ∃ F7 D7 x7, Hid (RelI F w t D A1 tg b L0 B N (k + 1) v' W7 F7 D7 x7)) := by
  intro W hB
  have hkl : k < L0.length := by
    rcases Nat.lt_or_ge k L0.length with q | q
    · exact q
    · rw [List.drop_eq_nil_of_le q] at hl; cases hl
  have hdrop : L0.drop (k + 1) = r := by rw [← List.drop_drop, hl]; rfl
  have htake : L0.take (k + 1) = L0.take k ++ [l] := by
    have : L0[k]? = some l := by rw [← List.head?_drop, hl]; rfl
    rw [List.take_add_one, this]
    rfl
  have hT := HI.tb.below hB
  have hsW := hB.size
  refine (grant_any hT l hw HI.made HI.hb (by omega)).mono ?_
  rintro e W4 ⟨rfl, D4, HQ⟩
  obtain ⟨a1, a2, a3, a4, a5⟩ := HQ.out
  have hs4 := a2.size
  have hrow4 : D4.rows tg = some x := by rw [a4.rows]; exact HI.row
  have hxL : x.L = l :: r := HI.xL.trans hl
  refine ⟨rfl, ?_⟩
  have hf4 := a1.first hrow4 hxL
  rw [HI.xb] at hf4
  refine hf4.mono ?_
  rintro e W5 ⟨rfl, hB5⟩
  have hs5 := hB5.size
  have hsl5 : SlOk W5 u (L0.take k) := by
    refine HI.sl.kept (fun g hg => ?_)
    have hgl := HI.sl.lt hg
    rw [hB5.block g (by omega), a2.block g (by omega) (HI.sep g hg).1, hB.block g hgl]
  obtain ⟨v', g', W6, p6, e6, hR6, hn6, hO6⟩ := appendl hsl5 l (by rw [List.length_take]; omega)
  have hs6 := hO6.size
  refine ⟨rfl, v', W6, p6, ?_, ?_⟩
  · obtain ⟨off, cap, cur, e, -⟩ := hR6
    exact ⟨_, _, by rw [e, List.length_append, List.length_take, Nat.min_eq_left HI.le]; rfl⟩
  · have hg6 : ¬ Old (Grown Fk W) W4 g' := fun q => by
      rcases hn6 with q6 | q6
      · have := HI.sl.lt q6
        rcases q.1 with q1 | q1
        · exact (HI.sep g' q6).1 q1
        · omega
      · have := q.2; omega
    have hg6w : w.heap.size ≤ g' := by
      rcases hn6 with q6 | q6
      · exact (HI.sep g' q6).2
      · have := HI.only.size; omega
    have hT6 : TbAt (Old (Grown Fk W) W4) W6 t D4 := (a1.old.below hB5).only hO6 (fun j hj _ e => hg6 (e ▸ hj))
    have hd := hT6.rdrop hrow4 hxL
    rw [HI.xb] at hd
    refine hd.mono ?_
    rintro e W7 ⟨rfl, v7, HR⟩
    obtain ⟨c1, c2⟩ := HR.out
    refine ⟨rfl, Old (Grown Fk W) W4, _, ⟨b, v7, r⟩, Hid.mk ⟨c1, fun j hj => ?_, ?_, ?_, fun g hg => ?_, updC_same _ _ _, rfl, hdrop.symm, fun i hi => ?_, fun i hi => ?_, ?_, ?_, ?_, by omega, ?_, ?_, ?_, ?_, ?_⟩⟩
    · rcases hj.1 with q | q
      · exact HI.sub j q
      · exact .inr (by have := HI.only.size; omega)
    · refine (((((HI.only.trans (Only.of_new (fun _ => False) hB) (fun _ q => q.elim)).trans a2 (fun j hj => HI.sub j hj)).trans (Only.of_new (fun _ => False) hB5) (fun _ q => q.elim)).trans hO6 (fun j hj => .inr (by rw [hj]; exact hg6w))).trans c2 (fun j hj => ?_))
      rcases hj.1 with q | q
      · exact HI.sub j q
      · exact .inr (by have := HI.only.size; omega)
    · have hgl : g' < W6.heap.size := by
        obtain ⟨off, cap, cur, _, e, -⟩ := hR6
        exact lt_of_block e
      rw [htake]
      exact .inr ⟨g', e6, (Sh.At.kept (c := .ls 0 _ _) hR6 (c2.block g' hgl hg6) : Sh.At _ _ (.ls 0 _ _))⟩
    · have : g' = g := Option.some.inj (e6.symm.trans hg)
      subst this
      exact ⟨hg6, hg6w⟩
    · have e1 : D4.abs.held i = Dk.abs.held i := by rw [a3]; unfold Ta.grant; exact updC_other _ _ (by rw [htg]; exact hi)
      exact e1.trans (HI.held i hi)
    · have e1 : (updC D4.rows tg (some ⟨b, v7, r⟩)) i = Dk.rows i := by rw [updC_other _ _ hi, a4.rows]
      show ((updC D4.rows tg (some ⟨b, v7, r⟩)) i).map _ = _
      rw [e1]
      exact HI.rows i hi
    · exact a4.waits.trans HI.waits
    · have e1 : D4.abs.held tg = some (putH (Dk.abs.held tg) l) := by
        rw [a3]
        show updC Dk.abs.held l.tg (some (putH (Dk.abs.held l.tg) l)) tg = _
        rw [htg, updC_same]
      show runN (D4.abs.held tg) (L0.drop (k + 1)) + (k + 1) = _
      have := HI.rn
      rw [hl, runN_cons, if_pos hb] at this
      rw [e1, hdrop]
      omega
    · have e1 : D4.abs.held tg = some (putH (Dk.abs.held tg) l) := by
        rw [a3]
        show updC Dk.abs.held l.tg (some (putH (Dk.abs.held l.tg) l)) tg = _
        rw [htg, updC_same]
      show runH (D4.abs.held tg) (L0.drop (k + 1)) = _
      have := HI.rh
      rw [hl, runH_cons, if_pos hb] at this
      rw [e1, hdrop]
      exact this
    · exact a5
    · exact a4.nw.trans HI.nw
    · exact a4.wm.trans HI.wm
    · obtain ⟨p, q, s, h1, h2, h3⟩ := HI.made
      exact ⟨p, q, s, a4.hm.trans h1, a4.rm.trans h2, a4.wm.trans h3⟩
    · refine ⟨by show D4.nr ≤ N; rw [a4.nr]; exact HI.rb.1, fun i y hy => ?_⟩
      by_cases e : i = tg
      · subst e
        have e1 := (updC_same D4.rows i (some ⟨b, v7, r⟩)).symm.trans hy
        cases e1
        have := HI.rb.2 _ _ HI.row
        rw [hxL] at this
        simp at this
        show r.length ≤ N
        omega
      · have e1 := (updC_other D4.rows (some ⟨b, v7, r⟩) e).symm.trans hy
        rw [a4.rows] at e1
        exact HI.rb.2 i y e1
theorem rel_end (HI : RelI F w t D A1 tg b L0 B N k u wr Fk Dk x) (hstop : runN (Dk.abs.held tg) (L0.drop k) = 0) (hA : A1.rows tg = some L0) (hAw : A1.waits = D.waits) (hrow : RowOk D tg L0) (hBN : B + D.nw ≤ N) (hL : L0.length ≤ 1000000) (htg : (Lit.int .i64 tg).wf = true) :
    ∀ W, Below wr.heap.size wr W → Calls Try.prog 34 #[ptV t, .int .i64 tg, u] W fun e W9 => e = .returned (.tuple #[]) ∧ Hid (RelTo F w t D (A1.run tg) (A1.runs tg) N u W9) := by
  intro W hB
  have hk : k = runN (A1.held tg) L0 := by have := HI.rn; omega
  have hT := HI.tb.below hB
  have hsl : SlOk W u (L0.take k) := HI.sl.kept (fun g hg => hB.block g (HI.sl.lt hg))
  obtain ⟨ao, c, eu⟩ := hsl.slice
  have hwd : Dk.waits = D.waits := HI.waits.trans hAw
  have hlen : (L0.take k).length = k := by rw [List.length_take, Nat.min_eq_left HI.le]
  have hlv := leave_any hT HI.made tg htg ao c (L0.take k) (by rw [← eu]; exact hsl) (fun g hg => by rw [← eu] at hg; exact (HI.sep g hg).1) (by rw [hlen]; have := HI.le; omega) (fun l hm => by
    have := hrow.1 l (List.mem_of_mem_take hm)
    rw [hwd]
    exact ⟨this.1, this.2.2⟩) (by
    rw [List.map_take]
    exact hrow.2.sublist (List.take_sublist _ _))
  rw [← eu] at hlv
  refine hlv.mono ?_
  rintro e W9 ⟨rfl, D', HQ⟩
  obtain ⟨a1, a2, a3, a4, a5, a6⟩ := HQ.out
  have hruns : A1.runs tg = L0.take k := by unfold Ta.runs; rw [hA, hk]; rfl
  refine ⟨rfl, Hid.mk ⟨?_, fun g hg => (HI.sep g hg).2, ?_, D', a1.mono (fun j _ hj => ⟨HI.sub j hj, fun e => (HI.sep j e).1 hj⟩), ?_, ⟨⟨B + k, ⟨by rw [a4.nh]; exact HI.hb.1, fun i y hy => by rw [a4.held] at hy; exact HI.hb.2 i y hy⟩, ?_⟩, a6 N HI.rb⟩, ?_, ?_, ?_⟩⟩
  · rw [hruns]
    exact hsl.kept (fun g hg => a2.block g (hsl.lt hg) (HI.sep g hg).1)
  · exact (HI.only.trans (Only.of_new (fun _ => False) hB) (fun _ q => q.elim)).trans a2 (fun j hj => HI.sub j hj)
  · rw [a3]
    have e1 : Dk.abs.held = updC A1.held tg (runH (A1.held tg) L0) := by
      funext i
      by_cases e : i = tg
      · subst e
        rw [updC_same, ← HI.rh, runH_stop hstop]
      · rw [updC_other _ _ e, HI.held i e]
    have e2 : updC Dk.abs.rows tg (cleanR (Dk.abs.rows tg)) = updC A1.rows tg (leftR (some L0) (runN (A1.held tg) L0)) := by
      funext i
      by_cases e : i = tg
      · subst e
        rw [updC_same, updC_same, absr_at HI.row, ← hk]
        show cleanR (some x.L) = _
        rw [HI.xL, clean_left]
      · rw [updC_other _ _ e, updC_other _ _ e, HI.rows i e]
    unfold Ta.run
    rw [e1, e2, hA, HI.waits, hk]
    rfl
  · have := HI.nw
    omega
  · obtain ⟨p, q, s, h1, h2, h3⟩ := HI.made
    exact ⟨p, q, s, a4.hm.trans h1, a4.rm.trans h2, a4.wm.trans h3⟩
  · rw [hruns]
    exact a5.trans HI.nw
  · exact a4.wm.trans HI.wm
theorem drop_rows (A : Ta) (th tg : Int) : (A.drop th tg).rows = A.rows ∧ (A.drop th tg).waits = A.waits := ⟨rfl, rfl⟩
theorem holds_some {D : Td} {th tg : Int} (h : D.abs.holds th tg = true) : ∃ x, D.held tg = some x := by
  cases e : D.held tg with
  | none => unfold Ta.holds at h; rw [abs_at e] at h; cases h
  | some x => exact ⟨x, rfl⟩
theorem St.made {D : Td} (h : D.St) {i : Int} {x : Hx} (hi : D.held i = some x) : D.Made := by
  rcases h with rfl | h
  · cases hi
  · exact h
end
end Go.Proofs.Ytoediflikoedaaa
