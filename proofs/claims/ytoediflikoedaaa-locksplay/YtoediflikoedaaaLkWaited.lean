/-
  A table of its own with the things for which somebody waits: waited.
-/
import Derived.Test.YtoediflikoedaaaLkCopy
namespace Go.Proofs.Ytoediflikoedaaa
open Go Go.Proofs Go.RowKit Go.Shelf Go.Maps
open Go.ChangeMaps (setBlock)
attribute [local go_sem] Oper.semAt_some
theorem exec_mapUpdate {ev : Operand → Value} {oi : Oper} {m k v : Operand} {t : TypeId} {a b c : Value} {W W' : World} (ho : oi.op = .mapUpdate t m k v) (hm : ev m = a) (hk : ev k = b) (hv : ev v = c) (hr : (Instr.mapUpdate t a b c).run Try.prog W = .ok () W') : (execOp ev oi).run Try.prog W = .ok .skip W' := by
  unfold execOp
  simp only [ho, hm, hk, hv, Sem.run_bind, hr, Result.andThen_ok]
  rfl
theorem exec_buildH {ev : Operand → Value} {oi : Oper} {x y : Operand} {m : Nat} {al : Bool} {W : World} (ho : oi.op = .build 68 #[(0, x), (1, y)]) (hx : ev x = .map (some m)) (hy : ev y = .bool al) : (execOp ev oi).run Try.prog W = .ok (.value (.agg #[.map (some m), .bool al])) W := by
  unfold execOp
  simp only [ho, hx, hy, List.map_toArray, List.map_cons, List.map_nil]
  go_simp
theorem exec_boxH {ev : Operand → Value} {oi : Oper} {x : Operand} {m : Nat} {al : Bool} {W : World} (ho : oi.op = .box 68 x) (hx : ev x = .agg #[.map (some m), .bool al]) : (execOp ev oi).run Try.prog W = .ok (.value (.pointer (some ⟨W.heap.size, 0, none⟩))) (W.alloc (.cells #[.map (some m), .bool al] 68)) := by
  unfold execOp
  simp only [ho, hx]
  go_simp
section
variable {F F' : Nat → Prop} {w W W' : World} {t : Nat} {D : Td}
/-- A row that was not, with those in it. -/
theorem TbAt.rowNew (h : TbAt F W t D) {rb : Nat} (hr : D.rm = some rb) {i : Int} (hi : D.rows i = none) {x : Rx} {g n' : Nat} (hO : Only (fun k => k = rb) W W') (hb : W.heap.size ≤ x.b) (hg : W.heap.size ≤ g) (hgb : g ≠ x.b) (hb' : x.b < W'.heap.size) (hg' : g < W'.heap.size) (hF : ∀ k, F k → F' k) (hFb : F' x.b) (hFg : F' g)
    (hv : x.v.ownBlock = some g) (c1 : W'.heap[x.b]? = some (.cells #[x.v] 76 (0, 0))) (c2 : RwAt W' g x.v x.L) (c3 : MAt W' 3 rb n' (intF ptV (updC (fun j => (D.rows j).map (fun z => z.b)) i (some x.b)))) : TbAt F' W' t { D with nr := n', rows := updC D.rows i (some x) } := by
  obtain ⟨σ, h1, h2⟩ := h
  have f1 : σ g = none := h1.new hg
  have f2 : upd σ g (.ls i x.v x.L) x.b = none := by rw [upd_ne _ _ (fun e => hgb e.symm)]; exact h1.new hb
  have k2 : ∀ k c, σ k = some c → upd (upd σ g (.ls i x.v x.L)) x.b (.rw i x.v) k = some c := fun k c hk => upd_fresh _ (upd_fresh _ hk f1) f2
  have hrb := k2 _ _ (h2.rm1 rb hr)
  have k3 : ∀ (c' : Sh) k c, σ k = some c → c ≠ .rmap D.nr (fun i => (D.rows i).map (fun z => z.b)) → upd (upd (upd σ g (.ls i x.v x.L)) x.b (.rw i x.v)) rb c' k = some c := fun c' k c hk hc => upd_keep _ (k2 k c hk) hrb hc
  have hrl := (h1 _ _ (h2.rm1 rb hr)).2.1
  refine ⟨upd (upd (upd σ g (.ls i x.v x.L)) x.b (.rw i x.v)) rb (.rmap n' (updC (fun j => (D.rows j).map (fun z : Rx => z.b)) i (some x.b))), h1.step hO hF (fun k c hk => ?_), ?_⟩
  · by_cases e1 : k = rb
    · subst e1
      rw [upd_at] at hk
      cases hk
      exact .inr ⟨hF _ (h1 _ _ (h2.rm1 k hr)).1, Nat.lt_of_lt_of_le hrl hO.size, c3⟩
    · rw [upd_ne _ _ e1] at hk
      by_cases e2 : k = x.b
      · subst e2
        rw [upd_at] at hk
        cases hk
        exact .inr ⟨hFb, hb', c1⟩
      · rw [upd_ne _ _ e2] at hk
        by_cases e3 : k = g
        · subst e3
          rw [upd_at] at hk
          cases hk
          exact .inr ⟨hFg, hg', c2⟩
        · rw [upd_ne _ _ e3] at hk
          exact .inl ⟨hk, e1⟩
  · have hbb : x.b ≠ rb := by omega
    have hbg : g ≠ rb := by omega
    refine ⟨k3 _ _ _ h2.tb (fun q => by cases q), h2.hm0, fun b e => k3 _ _ _ (h2.hm1 b e) (fun q => by cases q), fun e => ?_, fun b e => ?_, h2.wm0, fun b e => k3 _ _ _ (h2.wm1 b e) (fun q => by cases q), ?_, ?_, ?_, ?_⟩
    · rw [show D.rm = none from e] at hr
      cases hr
    · have : rb = b := Option.some.inj (hr.symm.trans e)
      subst this
      show upd _ rb _ rb = some (.rmap n' (fun j => (updC D.rows i (some x) j).map (fun z => z.b)))
      rw [upd_at, map_updC]
      rfl
    · exact fun j y hj => k3 _ _ _ (h2.hd j y hj) (fun q => by cases q)
    · exact fun j y hj => k3 _ _ _ (h2.th j y hj) (fun q => by cases q)
    · intro j y hj
      by_cases e : j = i
      · subst e
        have e1 := (updC_same D.rows j (some x)).symm.trans hj
        cases e1
        rw [upd_ne _ _ hbb, upd_at]
      · exact k3 _ _ _ (h2.rw j y ((updC_other D.rows _ e).symm.trans hj)) (fun q => by cases q)
    · intro j y hj
      by_cases e : j = i
      · subst e
        have e1 := (updC_same D.rows j (some x)).symm.trans hj
        cases e1
        exact .inr ⟨g, hv, by rw [upd_ne _ _ hbg, upd_ne _ _ hgb, upd_at]⟩
      · rcases h2.ls j y ((updC_other D.rows _ e).symm.trans hj) with q | ⟨g0, q1, q2⟩
        · exact .inl q
        · exact .inr ⟨g0, q1, k3 _ _ _ q2 (fun q => by cases q)⟩
end
/-- The things for which somebody waits alone. -/
def Ta.waited (A : Ta) : Ta := ⟨fun i => if (A.rows i).isSome then A.held i else Option.none, A.rows, A.waits⟩
/-- Between two rounds: some of the rows are copied. -/
structure WtI (w : World) (it t1 a b c : Nat) (D : Td) (left : Int → Bool) (cnt : Nat) (wr : World) (Dk : Td) : Prop where
  tb : TbAt (fun k => w.heap.size ≤ k ∧ k ≠ it) wr t1 Dk
  hm : Dk.hm = some a
  rm : Dk.rm = some b
  wm : Dk.wm = some c
  waits : Dk.waits = D.waits
  rows : ∀ i, (Lit.int .i64 i).wf = true → Dk.abs.rows i = if left i then none else D.abs.rows i
  held : ∀ i, (Lit.int .i64 i).wf = true → Dk.abs.held i = if left i || (D.abs.rows i).isNone then none else D.abs.held i
  nr : Dk.nr + cnt ≤ D.nr
  nh : Dk.nh + cnt ≤ D.nr
  nw : Dk.nw ≤ D.nw
  hb : ∀ i x, Dk.held i = some x → (Lit.int .i64 i).wf = true
  rb : ∀ i x, Dk.rows i = some x → (Lit.int .i64 i).wf = true
  below : Below w.heap.size w wr
  it : w.heap.size ≤ it ∧ it < wr.heap.size
def S8 (t1 rb1 : Nat) (W : World) : Prop := W.cell? ⟨t1, 1, none⟩ = some (.map (some rb1)) ∧ True ∧ True
def S9 (t1 hb1 : Nat) (hx : Hx) (W : World) : Prop := W.cell? ⟨t1, 0, none⟩ = some (.map (some hb1)) ∧ W.cell? ⟨hx.b, 0, none⟩ = some (.map (some hx.m)) ∧ W.cell? ⟨hx.b, 1, none⟩ = some (.bool hx.al)
section
variable {F : Nat → Prop} {w : World} {t : Nat} {D : Td} {it t1 hb1 rb1 cb : Nat} {left : Int → Bool} {cnt cnt1 : Nat} {wr w1 : World} {Dk : Td}
theorem wt_round (h : TbAt F w t D) (HI : WtI w it t1 hb1 rb1 cb D left cnt wr Dk) (hnr : D.nr ≤ 1000000) {x : Int} {rx : Rx} {hx : Hx} (hw : (Lit.int .i64 x).wf = true) (hr : D.rows x = some rx) (hL : rx.L ≠ []) (hLn : rx.L.length ≤ 1000000) (hh : D.held x = some hx) (hl : left x = true) (hg1 : wr.grownBy w1 (some it)) (hs1 : w1.heap.size = wr.heap.size) (hc : cnt1 < cnt) :
    w1.cell? ⟨t, 0, none⟩ = some (.map D.hm) ∧ (Instr.lookup 50 (.map D.hm) (.int .i64 x) false).run Try.prog w1 = .ok (ptV hx.b) w1 ∧ S8 t1 rb1 w1.drew ∧
    Calls Try.prog 47 #[ptV rx.b] w1.drew fun e w2 => ∃ b', e = .returned (ptV b') ∧ S8 t1 rb1 w2 ∧ ∃ o1, (Instr.mapUpdate 51 (.map (some rb1)) (.int .i64 x) (ptV b')).run Try.prog w2 = .ok () (setBlock w2 rb1 o1) ∧ Hid (S9 t1 hb1 hx (setBlock w2 rb1 o1).drew ∧
      Calls Try.prog 48 #[.map (some hx.m)] (setBlock w2 rb1 o1).drew fun e w5 => ∃ m', e = .returned (.map (some m')) ∧ S9 t1 hb1 hx w5 ∧ S9 t1 hb1 hx (w5.alloc (.cells #[.map (some m'), .bool hx.al] 68)) ∧ ∃ o2, (Instr.mapUpdate 50 (.map (some hb1)) (.int .i64 x) (.pointer (some ⟨w5.heap.size, 0, none⟩))).run Try.prog (w5.alloc (.cells #[.map (some m'), .bool hx.al] 68)) = .ok () (setBlock (w5.alloc (.cells #[.map (some m'), .bool hx.al] 68)) hb1 o2) ∧
        Hid ((∃ D2, WtI w it t1 hb1 rb1 cb D (fun z => if z = x then false else left z) cnt1 (setBlock (w5.alloc (.cells #[.map (some m'), .bool hx.al] 68)) hb1 o2) D2) ∧ ∀ k, (k < w.heap.size ∨ k = it) → (setBlock (w5.alloc (.cells #[.map (some m'), .bool hx.al] 68)) hb1 o2).heap[k]? = w1.heap[k]?)) := by
  have hsr := HI.below.size
  have hit := HI.it
  have hB1 : Below w.heap.size w w1 := HI.below.trans ⟨hg1.os, hg1.tape, hg1.output, hg1.size, fun k hk => hg1.block k (by omega) (fun e => by cases e; omega)⟩
  have hB1d : Below w.heap.size w w1.drew := hB1.trans ((drew_below _).mono (by omega))
  have hO1 : Only (fun k => k = it) wr w1.drew := ⟨hg1.os, hg1.tape, hg1.output, hg1.size, fun k hk hne => hg1.block k hk (fun e => hne (by cases e; rfl))⟩
  have hT1 : TbAt (fun k => w.heap.size ≤ k ∧ k ≠ it) w1.drew t1 Dk := HI.tb.only hO1 (fun k hk _ e => hk.2 e)
  have hf1 := h.below hB1
  have hf1d := h.below hB1d
  have hsd : w1.drew.heap.size = wr.heap.size := hs1
  have hDr : Dk.rows x = none := by
    have := HI.rows x hw
    rw [hl, if_pos rfl] at this
    cases e : Dk.rows x with
    | none => rfl
    | some y => rw [absr_at e] at this; cases this
  have hDh : Dk.held x = none := by
    have := HI.held x hw
    rw [hl, Bool.true_or, if_pos rfl] at this
    cases e : Dk.held x with
    | none => rfl
    | some y => rw [abs_at e] at this; cases this
  have cR : ∀ {W : World} {Dx : Td} {G : Nat → Prop}, TbAt G W t1 Dx → Dx.rm = some rb1 → S8 t1 rb1 W := fun hT e => by
    have := hT.cells.2.1
    rw [e] at this
    exact ⟨this, trivial, trivial⟩
  refine ⟨hf1.cells.1, hf1.lookH_some hw hh, cR hT1 HI.rm, ?_⟩
  obtain ⟨⟨_, _, hrb⟩, hrv⟩ := hf1d.rx hr
  obtain ⟨g, _, _, _, _, hRg⟩ := hrv.resolve_left (fun q => hL q.2)
  refine (rcopy_any w1.drew rx.b g rx.v rx.L hrb hRg hL hLn).mono ?_
  rintro e w2 ⟨b', v', g', rfl, HQ⟩
  obtain ⟨a1, a2, a3, a4, a5, a6, a7, a8, a9⟩ := HQ.out
  have hT2 := hT1.below a9
  obtain ⟨hrbF, hrbl, _⟩ := hT1.rown HI.rm
  obtain ⟨o1, p1, hm1⟩ := hT2.rput HI.rm (by have := HI.nr; omega) hw hDr b'
  refine ⟨b', rfl, cR hT2 HI.rm, o1, p1, Hid.mk ?_⟩
  obtain ⟨w3, hw3⟩ : ∃ w3, w3 = setBlock w2 rb1 o1 := ⟨_, rfl⟩
  have k3 : ∀ k, k ≠ rb1 → w3.heap[k]? = w2.heap[k]? := fun k hk => by rw [hw3]; exact heap_set_other hk
  have hs3 : w3.heap.size = w2.heap.size := by rw [hw3, size_setBlock]
  have hs2 := a9.size
  have hO3 : Only (fun k => k = rb1) w1.drew w3 := by rw [hw3]; exact (Only.of_new (fun k => k = rb1) a9).setBlock (.inl rfl) o1
  have hT3 : TbAt (fun k => w.heap.size ≤ k ∧ k ≠ it) w3 t1 { Dk with nr := Dk.nr + 1, rows := updC Dk.rows x (some ⟨b', v', rx.L⟩) } := hT1.rowNew HI.rm hDr hO3 (x := ⟨b', v', rx.L⟩) (g := g') a4 a5 a6 (by show b' < w3.heap.size; omega) (by omega) (fun k hk => hk) ⟨by show w.heap.size ≤ b'; omega, by show b' ≠ it; omega⟩ ⟨by omega, by omega⟩ a2 ((k3 b' (by omega)).trans a1) ((Sh.At.kept (c := .ls 0 _ _) a3 (k3 g' (by omega)) : Sh.At _ _ (.ls 0 _ _))) (by rw [hw3]; exact hm1)
  rw [← hw3]
  have hT3d := hT3.below (drew_below w3)
  have hrbw : w.heap.size ≤ rb1 := hrbF.1
  have hB3 : Below w.heap.size w w3.drew := hB1d.trans ((hO3.below (by omega) (fun k hk => by rw [hk]; exact hrbw)).trans ((drew_below _).mono (by omega)))
  have hf3 := h.below hB3
  obtain ⟨⟨_, hhl, hhb⟩, _, hml, hst⟩ := hf3.hx hh
  have hhlw := (h.hx hh).1.2.1
  have S9of : ∀ {W : World} {Dx : Td} {G : Nat → Prop}, TbAt G W t1 Dx → Dx.hm = some hb1 → W.heap[hx.b]? = w3.drew.heap[hx.b]? → S9 t1 hb1 hx W := fun hT e hk => by
    have := hT.cells.1
    rw [e] at this
    rw [hhb] at hk
    exact ⟨this, by rw [blk_cell hk]; rfl, by rw [blk_cell hk]; rfl⟩
  have hhm3 : ({ Dk with nr := Dk.nr + 1, rows := updC Dk.rows x (some ⟨b', v', rx.L⟩) } : Td).hm = some hb1 := HI.hm
  refine ⟨S9of hT3d hhm3 rfl, ?_⟩
  refine (clone_any w3.drew hx.m hx.S hst).mono ?_
  rintro e w5 ⟨rfl, hst5, hB5, hs5⟩
  have hT5 := hT3d.below hB5
  have hs3d : w3.drew.heap.size = w3.heap.size := rfl
  obtain ⟨w6, hw6⟩ : ∃ w6, w6 = w5.alloc (.cells #[.map (some w3.drew.heap.size), .bool hx.al] 68) := ⟨_, rfl⟩
  have hs6 : w6.heap.size = w5.heap.size + 1 := by rw [hw6]; simp
  have hB6 : Below w5.heap.size w5 w6 := by rw [hw6]; exact (Below.refl _ _).alloc (Nat.le_refl _) _
  have y6 : w6.heap[w5.heap.size]? = some (.cells #[.map (some w3.drew.heap.size), .bool hx.al] 68) := by rw [hw6]; exact blk_new w5 _
  have hT6 := hT5.below hB6
  have hst6 : StAt w6 (some w3.drew.heap.size) hx.S := hst5.kept (fun q hq => hB6.block q (by cases hq; omega))
  have hDh3 : ({ Dk with nr := Dk.nr + 1, rows := updC Dk.rows x (some ⟨b', v', rx.L⟩) } : Td).held x = none := hDh
  obtain ⟨hhbF, hhbl, _⟩ := hT3d.hown hhm3
  obtain ⟨o2, p2, hm2⟩ := hT6.hput hhm3 (show Dk.nh ≤ 1000000 by have := HI.nh; omega) hw hDh3 w5.heap.size
  refine ⟨w3.drew.heap.size, rfl, ?_⟩
  rw [← hw6]
  refine ⟨S9of hT5 hhm3 (hB5.block _ hhl), S9of hT6 hhm3 ((hB6.block _ (by have := hB5.size; omega)).trans (hB5.block _ hhl)), o2, p2, Hid.mk ?_⟩
  obtain ⟨w7, hw7⟩ : ∃ w7, w7 = setBlock w6 hb1 o2 := ⟨_, rfl⟩
  have k7 : ∀ k, k ≠ hb1 → w7.heap[k]? = w6.heap[k]? := fun k hk => by rw [hw7]; exact heap_set_other hk
  have hs7 : w7.heap.size = w6.heap.size := by rw [hw7, size_setBlock]
  have hO7 : Only (fun k => k = hb1) w3.drew w7 := by rw [hw7]; exact ((Only.of_new (fun k => k = hb1) hB5).trans (Only.of_new (fun _ => False) hB6) (fun _ q => q.elim)).setBlock (.inl rfl) o2
  have hB5s := hB5.size
  have hT7 := hT3d.heldAdd hhm3 hDh3 hO7 (x := ⟨w5.heap.size, w3.drew.heap.size, hx.S, hx.al⟩) (F' := fun k => w.heap.size ≤ k ∧ k ≠ it) (show w3.drew.heap.size ≤ w5.heap.size by omega) (show w3.drew.heap.size ≤ w3.drew.heap.size by omega) (show w5.heap.size ≠ w3.drew.heap.size by omega) (show w5.heap.size < w7.heap.size by omega) (show w3.drew.heap.size < w7.heap.size by omega) (fun k hk => hk) ⟨show w.heap.size ≤ w5.heap.size by omega, show w5.heap.size ≠ it by omega⟩ ⟨show w.heap.size ≤ w3.drew.heap.size by omega, show w3.drew.heap.size ≠ it by omega⟩ ((k7 w5.heap.size (by omega)).trans y6) (hst6.kept (fun q hq => by cases hq; exact k7 _ (by omega))) (by rw [hw7]; exact hm2)
  rw [← hw7]
  have hhbw : w.heap.size ≤ hb1 := hhbF.1
  refine ⟨⟨_, hT7, HI.hm, HI.rm, HI.wm, HI.waits, fun i hi => ?_, fun i hi => ?_, ?_, ?_, HI.nw, fun i y hy => ?_, fun i y hy => ?_, ?_, ?_⟩, fun k hk => ?_⟩
  · show ((updC Dk.rows x (some ⟨b', v', rx.L⟩)) i).map _ = _
    by_cases e : i = x
    · subst e
      rw [updC_same, if_pos rfl, if_neg (by simp), absr_at hr]
      rfl
    · rw [updC_other _ _ e, if_neg e]
      exact HI.rows i hi
  · show ((updC Dk.held x (some ⟨w5.heap.size, w3.drew.heap.size, hx.S, hx.al⟩)) i).map _ = _
    by_cases e : i = x
    · subst e
      rw [updC_same, absr_at hr, abs_at hh]
      simp
    · rw [updC_other _ _ e, if_neg e]
      exact HI.held i hi
  · show Dk.nr + 1 + cnt1 ≤ D.nr
    have := HI.nr
    omega
  · show Dk.nh + 1 + cnt1 ≤ D.nr
    have := HI.nh
    omega
  · by_cases e : i = x
    · subst e; exact hw
    · exact HI.hb i y ((updC_other Dk.held _ e).symm.trans hy)
  · by_cases e : i = x
    · subst e; exact hw
    · exact HI.rb i y ((updC_other Dk.rows _ e).symm.trans hy)
  · exact hB3.trans (hO7.below (by omega) (fun k hk => by rw [hk]; exact hhbw))
  · exact ⟨hit.1, by omega⟩
  · have hkl : k < wr.heap.size := by rcases hk with q | q <;> omega
    have hne1 : k ≠ hb1 := by
      rcases hk with q | q
      · omega
      · exact fun e => hhbF.2 (by rw [← e, q])
    have hne2 : k ≠ rb1 := by
      rcases hk with q | q
      · omega
      · exact fun e => hrbF.2 (by rw [← e, q])
    exact (hO7.block k (by omega) hne1).trans (hO3.block k (by omega) hne2)
end
theorem own_kept {H : Type} {w w' : World} {P : Program} {k : TypeId} {R : Value → Option (DataW H × List MemPlace)} {b n : Nat} {D : DataW H} (h : w.ownsMap P k R b n D) (hk : w'.heap[b]? = w.heap[b]?) : w'.ownsMap P k R b n D := by
  obtain ⟨es, clock, h1, r⟩ := h
  exact ⟨es, clock, hk.trans h1, r⟩
def S3 (t1 cb t wb : Nat) (W : World) : Prop := W.cell? ⟨t1, 2, none⟩ = some (.map (some cb)) ∧ W.cell? ⟨t, 2, none⟩ = some (.map (some wb)) ∧ True
/-- What waited has to its end. -/
def WtTo (w : World) (D : Td) (t1 : Nat) (w' : World) : Prop := ∃ D1, TbAt (fun k => w.heap.size ≤ k) w' t1 D1 ∧ D1.Made ∧ D1.waits = D.waits ∧ (∀ i, (Lit.int .i64 i).wf = true → D1.abs.rows i = D.abs.rows i) ∧ (∀ i, (Lit.int .i64 i).wf = true → D1.abs.held i = if (D.abs.rows i).isNone then none else D.abs.held i) ∧ D1.nr ≤ D.nr ∧ D1.nh ≤ D.nr ∧ D1.nw ≤ D.nw ∧ (∀ i x, D1.held i = some x → (Lit.int .i64 i).wf = true) ∧ (∀ i x, D1.rows i = some x → (Lit.int .i64 i).wf = true) ∧ Below w.heap.size w w'
section
variable {F : Nat → Prop} {w : World} {t : Nat} {D : Td}
set_option maxRecDepth 100000 in
set_option maxHeartbeats 8000000 in
theorem waited_any (h : TbAt F w t D) (hM : D.Made) (hok : ∀ i x, D.rows i = some x → x.L ≠ [] ∧ x.L.length ≤ 1000000 ∧ ∃ y, D.held i = some y) (hnr : D.nr ≤ 1000000) (hnw : D.nw ≤ 1000000) : Calls Try.prog 38 #[ptV t] w fun e w' => ∃ t1, e = .returned (ptV t1) ∧ Hid (WtTo w D t1 w') := by
  obtain ⟨hmb, rmb, wb, hhm, hrm, hwm⟩ := hM
  clear hhm
  obtain ⟨_, hrl, _⟩ := h.rown hrm
  obtain ⟨_, hwl, _⟩ := h.wown hwm
  have hmr := h.rmapAt
  rw [hrm] at hmr
  obtain ⟨Dm, hown0, hsz, hD⟩ := (show MAt w 3 rmb D.nr _ from hmr)
  have hmw := h.wmapAt
  rw [hwm] at hmw
  have HW := Hid.mk (show MAt w 3 wb D.nw _ from hmw)
  have HENT := Hid.mk (ent_int hD)
  have HHAS : Hid (∀ i : Int, (Lit.int .i64 i).wf = true → Maps.has Dm (.int .i64 i) = (D.rows i).isSome) := Hid.mk (fun i hi => by rw [(hD _ _ (key_int hi)).1, intF_int, Option.isSome_map])
  have HNEW := Hid.mk (new_any w)
  have HSTART : Hid (Calls Try.prog 25 #[ptV w.heap.size] (w.alloc (.cells #[.map none, .map none, .map none] 54)) fun e wB => e = .returned (.tuple #[]) ∧ ∃ hb1 rb1 cb, Hid (TbAt (fun k => w.heap.size ≤ k) wB w.heap.size (Td.made hb1 rb1 cb) ∧ Below w.heap.size w wB ∧ w.heap.size < wB.heap.size)) := Hid.mk (by
    have hf : TbAt (fun k => w.heap.size ≤ k) (w.alloc (.cells #[.map none, .map none, .map none] 54)) w.heap.size Td.none := TbAt.fresh (Nat.le_refl _) (blk_new w _)
    refine (start_new hf).mono ?_
    rintro e wB ⟨rfl, a, b, c, h1, h2⟩
    refine ⟨rfl, a, b, c, Hid.mk ⟨h1.mono (fun k _ hk => hk.elim (fun q => q) (fun q => by simp at q; omega)), ((Below.refl w.heap.size w).alloc (Nat.le_refl _) _).trans (h2.below (by simp) (fun k hk => by rw [hk]; exact Nat.le_refl _)), by have := h2.size; simp at this; omega⟩⟩)
  have HCPY : Hid (∀ wB hb1 rb1 cb, Hid (TbAt (fun k => w.heap.size ≤ k) wB w.heap.size (Td.made hb1 rb1 cb) ∧ Below w.heap.size w wB ∧ w.heap.size < wB.heap.size) → S3 w.heap.size cb t wb wB.drew ∧ Calls Try.prog 46 #[.map (some cb), .map (some wb)] wB.drew fun e w4 => e = .returned (.tuple #[]) ∧ S3 w.heap.size cb t wb w4 ∧ w4.cell? ⟨t, 1, none⟩ = some (.map (some rmb)) ∧ w4.ownsMap Try.prog 3 rawE rmb D.nr Dm ∧
      Hid (∀ w0 : World, w4.grownBy w0 none → w0.heap.size = w4.heap.size + 1 → ∃ Dk, WtI w w4.heap.size w.heap.size hb1 rb1 cb D (fun i => Maps.has Dm (.int .i64 i)) (Maps.size Dm) w0 Dk)) := Hid.mk (fun wB hb1 rb1 cb HQ => by
    obtain ⟨a1, a2, a3⟩ := HQ.out
    have a1d := a1.below (drew_below wB)
    have a2d : Below w.heap.size w wB.drew := a2.trans ((drew_below _).mono (by omega))
    have hf := h.below a2d
    have s3 : ∀ {W : World} {Dx : Td} {G G' : Nat → Prop}, TbAt G W w.heap.size Dx → Dx.wm = some cb → TbAt G' W t D → S3 w.heap.size cb t wb W := fun p q r => by
      have := p.cells.2.2
      rw [q] at this
      have r2 := r.cells.2.2
      rw [hwm] at r2
      exact ⟨this, r2, trivial⟩
    refine ⟨s3 a1d rfl hf, ?_⟩
    have hcb := a1d.wmapAt
    have hcb : MAt wB.drew 3 cb 0 (intF lkV (fun _ => none)) := hcb
    obtain ⟨hcF, hcl, _⟩ := a1d.wown (show (Td.made hb1 rb1 cb).wm = some cb from rfl)
    refine (copym_any wB.drew cb wb D.nw D.waits hcb (HW.out.kept (a2d.block wb hwl)) (by omega) hnw).mono ?_
    rintro e w4 ⟨rfl, HC⟩
    obtain ⟨⟨m, hm, hmat⟩, hO⟩ := HC.out
    have hT4 := a1d.waitTurn (show (Td.made hb1 rb1 cb).wm = some cb from rfl) hO hmat
    have hB4 : Below w.heap.size w w4 := a2d.trans (hO.below a2d.size (fun k hk => by rw [hk]; exact hcF))
    have hf4 := h.below hB4
    have c1 := hf4.cells.2.1
    rw [hrm] at c1
    refine ⟨rfl, s3 hT4 rfl hf4, c1, own_kept hown0 (hB4.block rmb hrl), Hid.mk (fun w0 hg0 hs0 => ?_)⟩
    have hBg : Below w4.heap.size w4 w0 := ⟨hg0.os, hg0.tape, hg0.output, hg0.size, fun k hk => hg0.block k hk (by simp)⟩
    have hs4 := hB4.size
    have hT0 : TbAt (fun k => w.heap.size ≤ k ∧ k ≠ w4.heap.size) w0 w.heap.size { Td.made hb1 rb1 cb with nw := m, waits := D.waits } := (hT4.mono (fun k hk q => ⟨q, by omega⟩)).below hBg
    refine ⟨_, hT0, rfl, rfl, rfl, rfl, fun i hi => ?_, fun i hi => ?_, ?_, ?_, hm, fun i x q => (by cases q), fun i x q => (by cases q), hB4.trans (hBg.mono hs4), hs4, by omega⟩
    · show none = _
      rw [HHAS.out i hi]
      show none = if (D.rows i).isSome = true then none else (D.rows i).map _
      cases D.rows i <;> rfl
    · show none = _
      rw [HHAS.out i hi]
      show none = if ((D.rows i).isSome || ((D.rows i).map _).isNone) = true then none else D.abs.held i
      cases D.rows i <;> rfl
    · show 0 + Maps.size Dm ≤ D.nr
      omega
    · show 0 + Maps.size Dm ≤ D.nr
      omega)
  have HROUND : Hid (∀ (it hb1 rb1 cb : Nat) (left : Int → Bool) (cnt cnt1 : Nat) (wr w1 : World) (Dk : Td), WtI w it w.heap.size hb1 rb1 cb D left cnt wr Dk → ∀ (x : Int) (rx : Rx) (hx : Hx), (Lit.int .i64 x).wf = true → D.rows x = some rx → D.held x = some hx → left x = true → wr.grownBy w1 (some it) → w1.heap.size = wr.heap.size → cnt1 < cnt → _) := Hid.mk (fun it hb1 rb1 cb left cnt cnt1 wr w1 Dk HI x rx hx hw hr hh hl hg1 hs1 hc => wt_round h HI hnr hw hr (hok x rx hr).1 (hok x rx hr).2.1 hh hl hg1 hs1 hc)
  have HOK : Hid (∀ i x, D.rows i = some x → ∃ y, D.held i = some y) := Hid.mk (fun i x q => (hok i x q).2.2)
  have HN : Hid (rmb < w.heap.size ∧ Maps.size Dm = D.nr) := Hid.mk ⟨hrl, hsz⟩
  clear h hok hD hmr hmw hwl hown0 HW HHAS hrm hwm hsz
  go_enter Try.func38, Try.ntmps38
  go_wp2_with (first
    | (go_at_call 10; refine HNEW.out.mono ?_; rintro e wA ⟨rfl, hwA⟩; subst hwA; clear HNEW)
    | (go_at_call 25; refine HSTART.out.mono ?_; rintro e wB ⟨rfl, hb1, rb1, cb, HB⟩; clear HSTART)
    | go_in)
  obtain ⟨hH, hCP⟩ := HCPY.out wB hb1 rb1 cb HB
  have HCP := Hid.mk hCP
  clear hCP HCPY HB
  refine wp_region_held_drew (S := S3 w.heap.size cb t wb) (by kernel_rfl) hH (fun hH => ?_)
  change wpAnyH Try.prog Region.Mode.any _ _ _ 9 _ _ _
  refine takeH 0 10 (.pointer (some ⟨w.heap.size, 0, none⟩)) rfl (by kernel_rfl) (by kernel_rfl) (by kernel_rfl) (by kernel_rfl) (fun _ _ _ h => h) (by kernel_rfl) (fun w hw => by kernel_rfl) hH ?_
  simp only [List.setIfInBounds_toArray, List.set_cons_zero, List.set_cons_succ]
  refine takeH 1 11 (.pointer (some ⟨w.heap.size, 0, none⟩)) rfl (by kernel_rfl) (by kernel_rfl) (by kernel_rfl) (by kernel_rfl) (fun _ _ _ h => h) (by kernel_rfl) (fun w hw => by go_simp) hH ?_
  simp only [List.setIfInBounds_toArray, List.set_cons_zero, List.set_cons_succ]
  refine takeH 2 12 (.pointer (some ⟨w.heap.size, 2, none⟩)) rfl (by kernel_rfl) (by kernel_rfl) (by kernel_rfl) (by kernel_rfl) (fun _ _ _ h => h) (by kernel_rfl) (fun w hw => by go_simp) hH ?_
  simp only [List.setIfInBounds_toArray, List.set_cons_zero, List.set_cons_succ]
  refine takeH 3 13 (.map (some cb)) rfl (by kernel_rfl) (by kernel_rfl) (by kernel_rfl) (by kernel_rfl) (fun _ _ _ h => h) (by kernel_rfl) (fun w hw => by (try dsimp only at hw); obtain ⟨hw1, hw2, hw3⟩ := hw; go_simp) hH ?_
  simp only [List.setIfInBounds_toArray, List.set_cons_zero, List.set_cons_succ]
  refine takeH 4 14 (.pointer (some ⟨t, 0, none⟩)) rfl (by kernel_rfl) (by kernel_rfl) (by kernel_rfl) (by kernel_rfl) (fun _ _ _ h => h) (by kernel_rfl) (fun w hw => by kernel_rfl) hH ?_
  simp only [List.setIfInBounds_toArray, List.set_cons_zero, List.set_cons_succ]
  refine takeH 5 15 (.pointer (some ⟨t, 0, none⟩)) rfl (by kernel_rfl) (by kernel_rfl) (by kernel_rfl) (by kernel_rfl) (fun _ _ _ h => h) (by kernel_rfl) (fun w hw => by go_simp) hH ?_
  simp only [List.setIfInBounds_toArray, List.set_cons_zero, List.set_cons_succ]
  refine takeH 6 16 (.pointer (some ⟨t, 2, none⟩)) rfl (by kernel_rfl) (by kernel_rfl) (by kernel_rfl) (by kernel_rfl) (fun _ _ _ h => h) (by kernel_rfl) (fun w hw => by go_simp) hH ?_
  simp only [List.setIfInBounds_toArray, List.set_cons_zero, List.set_cons_succ]
  refine takeH 7 17 (.map (some wb)) rfl (by kernel_rfl) (by kernel_rfl) (by kernel_rfl) (by kernel_rfl) (fun _ _ _ h => h) (by kernel_rfl) (fun w hw => by (try dsimp only at hw); obtain ⟨hw1, hw2, hw3⟩ := hw; go_simp) hH ?_
  simp only [List.setIfInBounds_toArray, List.set_cons_zero, List.set_cons_succ]
  refine stepH_call 8 18 rfl (by kernel_rfl) (by kernel_rfl) (by kernel_rfl) 46 #[.tmp 13, .tmp 17] #[52, 52] (by kernel_rfl) (enters_of Try.func46 (by kernel_rfl) rfl) #[.map (some cb), .map (some wb)] (by kernel_rfl) HCP.out ?_
  rintro e w4 ⟨rfl, hS4, hcr, hown, HI0⟩
  refine ⟨_, rfl, hS4, ?_⟩
  simp only [List.setIfInBounds_toArray, List.set_cons_zero, List.set_cons_succ]
  refine wpAnyH_done (by kernel_rfl) ?_ _
  go_wp2_with (first
    | (at_range; refine wpList_range_own _ rfl _ 51 rfl 3 55 keyed3 Try.underlying51 _ rmb D.nr _ rfl hown ?_; intro w0 hrg0 hg0 hs0)
    | go_in)
  go_frame
  obtain ⟨it, hit⟩ : ∃ it, it = w4.heap.size := ⟨_, rfl⟩
  have H0 := Hid.mk (HI0.out w0 hg0 hs0)
  rw [← hit] at hrg0 H0 ⊢
  clear hS4 hcr HI0 hg0 hs0 hit hown
  go_loopw [4, 5, 6] (fun _ _ _ wr => ∃ (left : Lit → Bool) (cnt : Nat), wr.ranges Try.prog 3 rawE rmb it D.nr Dm left cnt ∧ Hid (∃ Dk, WtI w it w.heap.size hb1 rb1 cb D (fun i => left (.int .i64 i)) cnt wr Dk)) (fun _ _ _ wr => wr.rangeLeft rmb it)
  case atStart => exact ⟨_, _, hrg0, H0⟩
  case round =>
    obtain ⟨left, cnt, hrg, HI⟩ := hrel
    clear hrg0 H0
    go_wp2_with (first
      | (at_next; refine wpList_next_ranges _ rfl _ rfl 3 keyed3 rawE (Value.int .i64) (fun v : Value => v) (fun key kl hk => by obtain ⟨x, rfl, _⟩ := Maps.keyOf_int_inv Try.underlying3 hk; exact ⟨x, rfl⟩) (fun v y _ => ⟨v, rfl⟩) rmb it D.nr _ _ _ rfl hrg ?_ ?_)
      | go_in)
    · intro hc0 hl0
      have HF : Hid (WtTo w D w.heap.size wr) := Hid.mk (by
        obtain ⟨Dk, HK⟩ := HI.out
        refine ⟨Dk, HK.tb.mono (fun k _ hk => hk.1), ⟨_, _, _, HK.hm, HK.rm, HK.wm⟩, HK.waits, fun i hi => ?_, fun i hi => ?_, by have := HK.nr; omega, by have := HK.nh; omega, HK.nw, HK.hb, HK.rb, HK.below⟩
        · rw [HK.rows i hi, hl0, if_neg (by simp)]
        · rw [HK.held i hi, hl0, Bool.false_or])
      go_wp2
      go_ret
      exact ⟨_, rfl, HF⟩
    · intro x c kl yd yp w1 cnt1 hkx hlx hry hat hrg1 hlt hg1 hs1 hen
      obtain ⟨rfl, hwx, rx, hrx, rfl⟩ := HENT.out x c kl (yd, yp) hkx hry hat
      obtain ⟨hx, hhx⟩ := HOK.out x rx hrx
      obtain ⟨Dk, HK⟩ := HI.out
      obtain ⟨d0, d1, hH8, hRC⟩ := HROUND.out it hb1 rb1 cb (fun i => left (.int .i64 i)) cnt cnt1 wr w1 Dk HK x rx hx hwx hrx hhx hlx hg1 hs1 hlt
      have HRC := Hid.mk hRC
      have HRG := Hid.mk hrg
      have HLT := Hid.mk hlt
      have HRG1 := Hid.mk hrg1
      clear hRC HK HI hrx hhx hat hry hkx hlx hg1 hrg hlt hrg1
      go_wp2
      refine wp_region_but 7 (S8 w.heap.size rb1) (by kernel_rfl) hH8 (fun hH => ?_)
      refine takeL 0 35 (.pointer (some ⟨w.heap.size, 0, none⟩)) rfl (by kernel_rfl) (by kernel_rfl) (by kernel_rfl) (by kernel_rfl) (by kernel_rfl) (fun _ _ _ h => h) (by kernel_rfl) (fun w hw => by kernel_rfl) hH ?_
      simp only [List.setIfInBounds_toArray, List.set_cons_zero, List.set_cons_succ]
      refine takeL 1 36 (.pointer (some ⟨w.heap.size, 0, none⟩)) rfl (by kernel_rfl) (by kernel_rfl) (by kernel_rfl) (by kernel_rfl) (by kernel_rfl) (fun _ _ _ h => h) (by kernel_rfl) (fun w hw => by go_simp) hH ?_
      simp only [List.setIfInBounds_toArray, List.set_cons_zero, List.set_cons_succ]
      refine takeL 2 37 (.pointer (some ⟨w.heap.size, 1, none⟩)) rfl (by kernel_rfl) (by kernel_rfl) (by kernel_rfl) (by kernel_rfl) (by kernel_rfl) (fun _ _ _ h => h) (by kernel_rfl) (fun w hw => by go_simp) hH ?_
      simp only [List.setIfInBounds_toArray, List.set_cons_zero, List.set_cons_succ]
      refine takeL 3 38 (.map (some rb1)) rfl (by kernel_rfl) (by kernel_rfl) (by kernel_rfl) (by kernel_rfl) (by kernel_rfl) (fun _ _ _ h => h) (by kernel_rfl) (fun w hw => by (try dsimp only at hw); obtain ⟨hw1, hw2, hw3⟩ := hw; go_simp) hH ?_
      simp only [List.setIfInBounds_toArray, List.set_cons_zero, List.set_cons_succ]
      refine takeL 4 39 (.int .i64 x) rfl (by kernel_rfl) (by kernel_rfl) (by kernel_rfl) (by kernel_rfl) (by kernel_rfl) (fun _ _ _ h => h) (by kernel_rfl) (fun w hw => by kernel_rfl) hH ?_
      simp only [List.setIfInBounds_toArray, List.set_cons_zero, List.set_cons_succ]
      refine takeL 5 40 (.pointer (some ⟨rx.b, 0, none⟩)) rfl (by kernel_rfl) (by kernel_rfl) (by kernel_rfl) (by kernel_rfl) (by kernel_rfl) (fun _ _ _ h => h) (by kernel_rfl) (fun w hw => by kernel_rfl) hH ?_
      simp only [List.setIfInBounds_toArray, List.set_cons_zero, List.set_cons_succ]
      refine stepL_call 6 41 rfl (by kernel_rfl) (by kernel_rfl) (by kernel_rfl) 47 #[.tmp 40] #[55] (by kernel_rfl) (enters_of Try.func47 (by kernel_rfl) rfl) #[ptV rx.b] (by kernel_rfl) HRC.out ?_
      rintro e w2 ⟨b', rfl, hS2, o1, p1, HN2⟩
      refine ⟨_, rfl, hS2, ?_⟩
      simp only [List.setIfInBounds_toArray, List.set_cons_zero, List.set_cons_succ]
      refine lastL (setBlock w2 rb1 o1) rfl (by kernel_rfl) (by kernel_rfl) (by kernel_rfl) (exec_mapUpdate (m := .tmp 38) (k := .tmp 39) (v := .tmp 41) (by kernel_rfl) (by kernel_rfl) (by kernel_rfl) (by kernel_rfl) p1) (by kernel_rfl) ?_
      obtain ⟨hH9, hCL⟩ := HN2.out
      have HCL := Hid.mk hCL
      clear hCL HN2 hS2 p1
      go_wp2
      refine wp_region_but 16 (S9 w.heap.size hb1 hx) (by kernel_rfl) hH9 (fun hH => ?_)
      refine takeL 0 42 (.pointer (some ⟨w.heap.size, 0, none⟩)) rfl (by kernel_rfl) (by kernel_rfl) (by kernel_rfl) (by kernel_rfl) (by kernel_rfl) (fun _ _ _ h => h) (by kernel_rfl) (fun w hw => by kernel_rfl) hH ?_
      simp only [List.setIfInBounds_toArray, List.set_cons_zero, List.set_cons_succ]
      refine takeL 1 43 (.pointer (some ⟨w.heap.size, 0, none⟩)) rfl (by kernel_rfl) (by kernel_rfl) (by kernel_rfl) (by kernel_rfl) (by kernel_rfl) (fun _ _ _ h => h) (by kernel_rfl) (fun w hw => by go_simp) hH ?_
      simp only [List.setIfInBounds_toArray, List.set_cons_zero, List.set_cons_succ]
      refine takeL 2 44 (.pointer (some ⟨w.heap.size, 0, none⟩)) rfl (by kernel_rfl) (by kernel_rfl) (by kernel_rfl) (by kernel_rfl) (by kernel_rfl) (fun _ _ _ h => h) (by kernel_rfl) (fun w hw => by go_simp) hH ?_
      simp only [List.setIfInBounds_toArray, List.set_cons_zero, List.set_cons_succ]
      refine takeL 3 45 (.map (some hb1)) rfl (by kernel_rfl) (by kernel_rfl) (by kernel_rfl) (by kernel_rfl) (by kernel_rfl) (fun _ _ _ h => h) (by kernel_rfl) (fun w hw => by (try dsimp only at hw); obtain ⟨hw1, hw2, hw3⟩ := hw; go_simp) hH ?_
      simp only [List.setIfInBounds_toArray, List.set_cons_zero, List.set_cons_succ]
      refine takeL 4 46 (.int .i64 x) rfl (by kernel_rfl) (by kernel_rfl) (by kernel_rfl) (by kernel_rfl) (by kernel_rfl) (fun _ _ _ h => h) (by kernel_rfl) (fun w hw => by kernel_rfl) hH ?_
      simp only [List.setIfInBounds_toArray, List.set_cons_zero, List.set_cons_succ]
      refine takeL 5 47 (.pointer (some ⟨hx.b, 0, none⟩)) rfl (by kernel_rfl) (by kernel_rfl) (by kernel_rfl) (by kernel_rfl) (by kernel_rfl) (fun _ _ _ h => h) (by kernel_rfl) (fun w hw => by kernel_rfl) hH ?_
      simp only [List.setIfInBounds_toArray, List.set_cons_zero, List.set_cons_succ]
      refine takeL 6 48 (.pointer (some ⟨hx.b, 0, none⟩)) rfl (by kernel_rfl) (by kernel_rfl) (by kernel_rfl) (by kernel_rfl) (by kernel_rfl) (fun _ _ _ h => h) (by kernel_rfl) (fun w hw => by go_simp) hH ?_
      simp only [List.setIfInBounds_toArray, List.set_cons_zero, List.set_cons_succ]
      refine takeL 7 49 (.pointer (some ⟨hx.b, 0, none⟩)) rfl (by kernel_rfl) (by kernel_rfl) (by kernel_rfl) (by kernel_rfl) (by kernel_rfl) (fun _ _ _ h => h) (by kernel_rfl) (fun w hw => by go_simp) hH ?_
      simp only [List.setIfInBounds_toArray, List.set_cons_zero, List.set_cons_succ]
      refine takeL 8 50 (.map (some hx.m)) rfl (by kernel_rfl) (by kernel_rfl) (by kernel_rfl) (by kernel_rfl) (by kernel_rfl) (fun _ _ _ h => h) (by kernel_rfl) (fun w hw => by (try dsimp only at hw); obtain ⟨hw1, hw2, hw3⟩ := hw; go_simp) hH ?_
      simp only [List.setIfInBounds_toArray, List.set_cons_zero, List.set_cons_succ]
      refine takeL 10 52 (.pointer (some ⟨hx.b, 0, none⟩)) rfl (by kernel_rfl) (by kernel_rfl) (by kernel_rfl) (by kernel_rfl) (by kernel_rfl) (fun _ _ _ h => h) (by kernel_rfl) (fun w hw => by kernel_rfl) hH ?_
      simp only [List.setIfInBounds_toArray, List.set_cons_zero, List.set_cons_succ]
      refine takeL 11 53 (.pointer (some ⟨hx.b, 0, none⟩)) rfl (by kernel_rfl) (by kernel_rfl) (by kernel_rfl) (by kernel_rfl) (by kernel_rfl) (fun _ _ _ h => h) (by kernel_rfl) (fun w hw => by go_simp) hH ?_
      simp only [List.setIfInBounds_toArray, List.set_cons_zero, List.set_cons_succ]
      refine takeL 12 54 (.pointer (some ⟨hx.b, 1, none⟩)) rfl (by kernel_rfl) (by kernel_rfl) (by kernel_rfl) (by kernel_rfl) (by kernel_rfl) (fun _ _ _ h => h) (by kernel_rfl) (fun w hw => by go_simp) hH ?_
      simp only [List.setIfInBounds_toArray, List.set_cons_zero, List.set_cons_succ]
      refine takeL 13 55 (.bool hx.al) rfl (by kernel_rfl) (by kernel_rfl) (by kernel_rfl) (by kernel_rfl) (by kernel_rfl) (fun _ _ _ h => h) (by kernel_rfl) (fun w hw => by (try dsimp only at hw); obtain ⟨hw1, hw2, hw3⟩ := hw; go_simp) hH ?_
      simp only [List.setIfInBounds_toArray, List.set_cons_zero, List.set_cons_succ]
      refine stepL_call 9 51 rfl (by kernel_rfl) (by kernel_rfl) (by kernel_rfl) 48 #[.tmp 50] #[65] (by kernel_rfl) (enters_of Try.func48 (by kernel_rfl) rfl) #[.map (some hx.m)] (by kernel_rfl) HCL.out ?_
      rintro e w5 ⟨m', rfl, hS5, hS6, o2, p2, HN6⟩
      refine ⟨_, rfl, hS5, ?_⟩
      simp only [List.setIfInBounds_toArray, List.set_cons_zero, List.set_cons_succ]
      refine stepL_run 14 56 (.agg #[.map (some m'), .bool hx.al]) w5 rfl (by kernel_rfl) (by kernel_rfl) (by kernel_rfl) (exec_buildH (x := .tmp 51) (y := .tmp 55) (by kernel_rfl) (by kernel_rfl) (by kernel_rfl)) hS5 ?_
      simp only [List.setIfInBounds_toArray, List.set_cons_zero, List.set_cons_succ]
      refine stepL_run 15 57 (.pointer (some ⟨w5.heap.size, 0, none⟩)) (w5.alloc (.cells #[.map (some m'), .bool hx.al] 68)) rfl (by kernel_rfl) (by kernel_rfl) (by kernel_rfl) (exec_boxH (x := .tmp 56) (by kernel_rfl) (by kernel_rfl)) hS6 ?_
      simp only [List.setIfInBounds_toArray, List.set_cons_zero, List.set_cons_succ]
      refine lastL (setBlock (w5.alloc (.cells #[.map (some m'), .bool hx.al] 68)) hb1 o2) rfl (by kernel_rfl) (by kernel_rfl) (by kernel_rfl) (exec_mapUpdate (m := .tmp 45) (k := .tmp 46) (v := .tmp 57) (by kernel_rfl) (by kernel_rfl) (by kernel_rfl) (by kernel_rfl) p2) (by kernel_rfl) ?_
      go_wp2
      have hrg2 : (setBlock (w5.alloc (.cells #[.map (some m'), .bool hx.al] 68)) hb1 o2).ranges Try.prog 3 rawE rmb it D.nr Dm (fun z => left z && !z.sameKey (.int .i64 x)) cnt1 := ranges_at HRG1.out (HN6.out.2 _ (.inl HN.out.1)) (HN6.out.2 _ (.inr rfl))
      go_roundw
      case rel =>
        refine ⟨_, cnt1, hrg2, Hid.mk ?_⟩
        have e1 : (fun i => (left (.int .i64 i) && !(Lit.int .i64 i).sameKey (.int .i64 x))) = fun z => if z = x then false else left (.int .i64 z) := funext (left_struck left x)
        obtain ⟨D2, h2⟩ := HN6.out.1
        refine ⟨D2, ?_⟩
        rw [e1]
        exact h2
      case measure => (rw [hrg2.left_eq, HRG.out.left_eq]; exact HLT.out)
end
end Go.Proofs.Ytoediflikoedaaa
