/-
  The first of a row; those that were granted wait no more: leave.
-/
import Derived.Test.YtoediflikoedaaaLkAsk
namespace Go.Proofs.Ytoediflikoedaaa
open Go Go.Proofs Go.RowKit Go.Shelf
open Go.ChangeMaps (setBlock)
attribute [local go_sem] Oper.semAt_some
theorem Ly_at {L : List Lk} {k : Nat} {l : Lk} (h : L[k]? = some l) : (Ly L)[k * 3]? = some (.int .i64 l.th) ∧ (Ly L)[k * 3 + 1]? = some (.int .i64 l.tg) ∧ (Ly L)[k * 3 + 2]? = some (.bool l.al) := by
  induction L generalizing k with
  | nil => cases h
  | cons a r ih =>
    rw [Ly_cons]
    cases k with
    | zero => cases h; exact ⟨rfl, rfl, rfl⟩
    | succ k =>
      have h' : r[k]? = some l := by simpa using h
      obtain ⟨h1, h2, h3⟩ := ih h'
      have hl : (lkC a).length = 3 := rfl
      refine ⟨?_, ?_, ?_⟩
      · rw [List.getElem?_append_right (by omega), hl, show (k + 1) * 3 - 3 = k * 3 by omega]; exact h1
      · rw [List.getElem?_append_right (by omega), hl, show (k + 1) * 3 + 1 - 3 = k * 3 + 1 by omega]; exact h2
      · rw [List.getElem?_append_right (by omega), hl, show (k + 1) * 3 + 2 - 3 = k * 3 + 2 by omega]; exact h3
theorem RwAt.cells {W : World} {g : Nat} {v : Value} {L : List Lk} (h : RwAt W g v L) : ∃ off cap, v = .slice (some ⟨g, off, none⟩) L.length cap ∧ g < W.heap.size ∧ L.length ≤ cap ∧ ∀ k l, L[k]? = some l → W.cell? ⟨g, off + k * 3, none⟩ = some (.int .i64 l.th) ∧ W.cell? ⟨g, off + k * 3 + 1, none⟩ = some (.int .i64 l.tg) ∧ W.cell? ⟨g, off + k * 3 + 2, none⟩ = some (.bool l.al) := by
  obtain ⟨off, cap, cur, h1, h2, h3, h4, h5, h6⟩ := h
  refine ⟨off, cap, h1, lt_of_block h2, h3, fun k l hk => ?_⟩
  obtain ⟨a, b, c⟩ := Ly_at hk
  rw [blk_cell h2, blk_cell h2, blk_cell h2]
  refine ⟨h6 _ _ a, ?_, ?_⟩
  · rw [Nat.add_assoc]; exact h6 _ _ b
  · rw [Nat.add_assoc]; exact h6 _ _ c
section
variable {F : Nat → Prop} {w : World} {t : Nat} {D : Td}
theorem TbAt.rcells (h : TbAt F w t D) {i : Int} {x : Rx} (hi : D.rows i = some x) {l : Lk} {r : List Lk} (hx : x.L = l :: r) : ∃ g off cap, x.v = .slice (some ⟨g, off, none⟩) (r.length + 1) cap ∧ x.v.ownBlock = some g ∧ g ≠ x.b ∧ RwAt w g x.v x.L ∧ g < w.heap.size ∧ r.length + 1 ≤ cap ∧ w.cell? ⟨g, off, none⟩ = some (.int .i64 l.th) ∧ w.cell? ⟨g, off + 1, none⟩ = some (.int .i64 l.tg) ∧ w.cell? ⟨g, off + 2, none⟩ = some (.bool l.al) := by
  rcases (h.rx hi).2 with ⟨_, e2⟩ | ⟨g, e1, e2, e3, e4, e5⟩
  · rw [hx] at e2; cases e2
  · obtain ⟨off, cap, a1, a2, a3, a4⟩ := e5.cells
    rw [hx] at a1 a3
    obtain ⟨b1, b2, b3⟩ := a4 0 l (by rw [hx]; rfl)
    exact ⟨g, off, cap, a1, e1, e2, e5, a2, a3, by simpa using b1, by simpa using b2, by simpa using b3⟩
theorem TbAt.first (h : TbAt F w t D) {i : Int} {x : Rx} (hi : D.rows i = some x) {l : Lk} {r : List Lk} (hx : x.L = l :: r) : Calls Try.prog 32 #[ptV x.b] w fun e w' => e = .returned (lkV l) ∧ Below w.heap.size w w' := by
  obtain ⟨g, off, cap, a1, _, _, _, a2, a3, b1, b2, b3⟩ := h.rcells hi hx
  have hb := (h.rx hi).1.2.2
  rw [a1] at hb
  exact first_any w x.b g off r.length cap l a2 hb b1 b2 b3
theorem TbAt.empty (h : TbAt F w t D) {i : Int} {x : Rx} (hi : D.rows i = some x) : Calls Try.prog 31 #[ptV x.b] w fun e w' => e = .returned (.bool (decide (x.L.length = 0))) ∧ w' = w := by
  obtain ⟨ao, cap, e⟩ := (h.slOk hi).1.slice
  have hb := (h.rx hi).1.2.2
  rw [e] at hb
  exact empty_any w x.b ao _ cap hb
theorem TbAt.rdrop (h : TbAt F w t D) {i : Int} {x : Rx} (hi : D.rows i = some x) {l : Lk} {r : List Lk} (hx : x.L = l :: r) : Calls Try.prog 33 #[ptV x.b] w fun e w' => e = .returned (.tuple #[]) ∧ ∃ v', Hid (TbAt F w' t { D with rows := updC D.rows i (some ⟨x.b, v', r⟩) } ∧ Only F w w') := by
  obtain ⟨g, off, cap, a1, a0, a5, hR, a2, a3, b1, b2, b3⟩ := h.rcells hi hx
  obtain ⟨hFb, hbl, hb⟩ := (h.rx hi).1
  obtain ⟨c, rfl⟩ : ∃ c, cap = c + 1 := ⟨cap - 1, by omega⟩
  have hb0 := hb
  rw [a1] at hb
  refine (rdrop_any w x.b g off r.length c hb (by omega)).mono ?_
  rintro e w' ⟨rfl, off', ho, hoo, rfl⟩
  refine ⟨rfl, .slice (some ⟨g, off', none⟩) r.length c, Hid.mk ⟨?_, (Only.refl F w).setCell (p := ⟨x.b, 0, none⟩) (.inl hFb) _⟩⟩
  have hO : Only (fun k => k = x.b ∨ k = g) w (w.setCell ⟨x.b, 0, none⟩ (.slice (some ⟨g, off', none⟩) r.length c)) := (Only.refl _ w).setCell (p := ⟨x.b, 0, none⟩) (.inl (.inl rfl)) _
  have h1 := h.rowTurn (g' := g) hi hO (v' := .slice (some ⟨g, off', none⟩) r.length c) (L' := r) (by rw [blk_set hb]; rfl) rfl (.inl a0) (by simpa using a2) ?_
  · exact h1.mono (fun k hk q => q.elim (fun q => q) (fun q => by simp at hk; omega))
  · obtain ⟨off0, cap0, cur, e1, e2, e3, e4, e5, e6⟩ := hR
    rw [a1, hx] at e1
    cases e1
    refine ⟨off', c, cur, rfl, (set_other _ _ _ _ a5).trans e2, by omega, by omega, by omega, fun j u hj => ?_⟩
    rcases ho with rfl | rfl
    · have : r = [] := List.eq_nil_of_length_eq_zero (by omega)
      rw [this] at hj
      cases hj
    · have := e6 (3 + j) u (by rw [hx, Ly_cons, List.getElem?_append_right (by simp [lkC])]; simpa [lkC] using hj)
      rwa [← Nat.add_assoc] at this
/-- A row that is empty is forgotten. -/
def cleanR (o : Option (List Lk)) : Option (List Lk) := match o with
  | some [] => none
  | o => o
theorem abs_w (D : Td) (n : Nat) (f : Int → Option Lk) : Td.abs { D with nw := n, waits := f } = ⟨D.abs.held, D.abs.rows, f⟩ := rfl
set_option maxRecDepth 100000 in
set_option maxHeartbeats 4000000 in
theorem leave_any (h : TbAt F w t D) (hM : D.Made) (tg : Int) (htg : (Lit.int .i64 tg).wf = true) (ao : Option Addr) (c : Nat) (G : List Lk) (hv : SlOk w (.slice ao G.length c) G) (hvF : ∀ g, (Value.slice ao G.length c).ownBlock = some g → ¬ F g) (hG : G.length ≤ 1000000) (hGw : ∀ l ∈ G, l.wf ∧ (D.waits l.th).isSome = true) (hnd : (G.map Lk.th).Nodup) :
    Calls Try.prog 34 #[ptV t, .int .i64 tg, .slice ao G.length c] w fun e w' => e = .returned (.tuple #[]) ∧ ∃ D', Hid (TbAt F w' t D' ∧ Only F w w' ∧ D'.abs = ⟨D.abs.held, updC D.abs.rows tg (cleanR (D.abs.rows tg)), unwait D.waits G⟩ ∧ SameH D D' ∧ D'.nw + G.length = D.nw ∧ ∀ B, RB B D → RB B D') := by
  obtain ⟨n, hn⟩ : ∃ n, n = G.length := ⟨_, rfl⟩
  obtain ⟨_, rb, wb, _, hrb, hwb⟩ := hM
  have hFw := h.wown hwb
  have HG : Hid (∀ k l, G[k]? = some l → ∃ g off, ao = some ⟨g, off, none⟩ ∧ ¬ F g ∧ g < w.heap.size ∧ (∀ W : World, W.heap[g]? = w.heap[g]? → W.cell? ⟨g, off + k * 3, none⟩ = some (.int .i64 l.th) ∧ W.cell? ⟨g, off + k * 3 + 1, none⟩ = some (.int .i64 l.tg) ∧ W.cell? ⟨g, off + k * 3 + 2, none⟩ = some (.bool l.al))) := Hid.mk (fun k l hk => by
    rcases hv with ⟨_, e⟩ | ⟨g, hg, hR⟩
    · rw [e] at hk; cases hk
    · obtain ⟨off, cap, e1, e2, e3, e4⟩ := hR.cells
      cases e1
      refine ⟨g, off, rfl, hvF g rfl, e2, fun W hW => ?_⟩
      obtain ⟨a, b, d⟩ := e4 k l hk
      exact ⟨(World.cell?_of_block (w := w) hW).trans a, (World.cell?_of_block (w := w) hW).trans b, (World.cell?_of_block (w := w) hW).trans d⟩)
  have HD0 : Hid (TbAt F w t D) := Hid.mk h
  have hnm : (n : Int) ≤ 1000000 := by omega
  rw [← hn]
  -- between two rounds
  have HSTEP : Hid (∀ k l (W : World), G[k]? = some l → TbAt F W t { D with nw := D.nw - k, waits := unwait D.waits (G.take k) } → k ≤ D.nw → k < D.nw ∧ ∃ o, (Builtin.delete_ #[52, 3] 0 #[.map (some wb), .int .i64 l.th]).run Try.prog W = .ok (.tuple #[]) (setBlock W wb o) ∧ TbAt F (setBlock W wb o) t { D with nw := D.nw - (k + 1), waits := unwait D.waits (G.take (k + 1)) }) := Hid.mk (fun k l W hk hT hkn => by
    have hlG : l ∈ G := List.mem_of_getElem? hk
    have hw1 : unwait D.waits (G.take k) l.th = D.waits l.th := by
      rw [unwait_eq, if_neg]
      intro hm
      have hk' : k < G.length := (List.getElem?_eq_some_iff.1 hk).1
      have e1 : G = G.take k ++ (l :: G.drop (k + 1)) := by
        have := (List.getElem?_eq_some_iff.1 hk).2
        rw [← this, ← List.drop_eq_getElem_cons hk', List.take_append_drop]
      rw [e1, List.map_append, List.nodup_append] at hnd
      exact hnd.2.2 _ hm _ (by simp) rfl
    have hT' : TbAt F W t { D with nw := D.nw - k, waits := unwait D.waits (G.take k) } := hT
    obtain ⟨o, p, hm⟩ := hT'.wdel hwb (hGw l hlG).1.1 0
    have hsome : (unwait D.waits (G.take k) l.th).isSome = true := by rw [hw1]; exact (hGw l hlG).2
    have hpos : 0 < D.nw - k := by
      rcases Nat.eq_zero_or_pos (D.nw - k) with q | q
      · exfalso
        have h3 := hT'.wmapAt
        rw [show ({ D with nw := D.nw - k, waits := unwait D.waits (G.take k) } : Td).wm = some wb from hwb] at h3
        obtain ⟨DD, a1, a2, a3⟩ := (show MAt W 3 wb (D.nw - k) _ from h3)
        have h4 := (a3 (.int .i64 l.th) _ (key_int (hGw l hlG).1.1)).1
        rw [intF_int, Option.isSome_map, hsome] at h4
        have h5 := Maps.size_del (k := Lit.int .i64 l.th) (a1.tidy keyed3)
        rw [h4, if_pos rfl] at h5
        omega
      · exact q
    refine ⟨by omega, o, p, ?_⟩
    have h5 := hT'.waitTurn hwb ((Only.refl (fun j => j = wb) W).setBlock (.inl rfl) o) hm
    have e2 : unwait D.waits (G.take (k + 1)) = updC (unwait D.waits (G.take k)) l.th none := by
      have : G.take (k + 1) = G.take k ++ [l] := by rw [List.take_add_one, hk]; rfl
      rw [this]
      unfold unwait
      rw [List.foldl_append]
      rfl
    rw [e2]
    have e3 : (if (unwait D.waits (G.take k) l.th).isSome = true then D.nw - k - 1 else D.nw - k) = D.nw - (k + 1) := by rw [if_pos hsome]; omega
    have h6 : TbAt F (setBlock W wb o) t { D with nw := if (unwait D.waits (G.take k) l.th).isSome = true then D.nw - k - 1 else D.nw - k, waits := updC (unwait D.waits (G.take k)) l.th none } := h5
    rw [e3] at h6
    exact h6)
  clear h hv hvF hG hnd
  go_enter Try.func34, Try.ntmps34
  go_wp2
  go_loopw [7, 11] (fun _ iv wr => ∃ k : Nat, iv = .int .i64 k ∧ Hid (k ≤ n ∧ k ≤ D.nw ∧ TbAt F wr t { D with nw := D.nw - k, waits := unwait D.waits (G.take k) } ∧ Only (fun j => j = wb) w wr)) (fun _ iv _ => n - (Go.RowKit.intOf iv).toNat)
  case atStart => exact ⟨0, rfl, Hid.mk ⟨Nat.zero_le _, Nat.zero_le _, HD0.out, Only.refl _ _⟩⟩
  case round =>
    obtain ⟨k, rfl, HI⟩ := hrel
    by_cases hlt : (k : Int) < (n : Int)
    · obtain ⟨l, hl⟩ : ∃ l, G[k]? = some l := ⟨G[k]'(by omega), List.getElem?_eq_getElem (by omega)⟩
      obtain ⟨g, off, rfl, hgF, hgl, hc⟩ := HG.out k l hl
      have hgw : g ≠ wb := fun e => hgF (by rw [e]; exact hFw.1)
      obtain ⟨d1, d2, d3⟩ := hc wr (HI.out.2.2.2.block g hgl hgw)
      have hglr : g < wr.heap.size := Nat.lt_of_lt_of_le hgl HI.out.2.2.2.size
      have u1 : IntKind.i64.wrap ((k : Int) + 1) = ((k + 1 : Nat) : Int) := by rw [IntKind.wrap_i64]; omega
      have e1 : (⟨g, off, none⟩ : Addr).add (k * 3) = ⟨g, off + k * 3, none⟩ := by rw [add_at]
      have HLT : Hid (k < n) := Hid.mk (by omega)
      obtain ⟨w0, hw0⟩ : ∃ w0, w0 = wr.alloc (lkO l) := ⟨_, rfl⟩
      have hB1 : Below wr.heap.size wr w0.drew := by
        rw [hw0]
        exact ((Below.refl wr.heap.size wr).alloc (Nat.le_refl _) (lkO l)).trans ((drew_below _).mono (by simp))
      obtain ⟨hk1, o, p1, hT1⟩ := HSTEP.out k l w0.drew hl (HI.out.2.2.1.below hB1) HI.out.2.1
      have x1 : w0.drew.heap[wr.heap.size]? = some (lkO l) := by rw [hw0]; exact blk_new wr _
      obtain ⟨f1, f2, f3⟩ := box_cells (w := wr) x1
      have c2 : w0.drew.cell? ⟨t, 2, none⟩ = some (.map D.wm) := (HI.out.2.2.1.below hB1).cells.2.2
      rw [hwb] at c2
      have HN : Hid (k + 1 ≤ n ∧ k + 1 ≤ D.nw ∧ TbAt F (setBlock w0.drew wb o) t { D with nw := D.nw - (k + 1), waits := unwait D.waits (G.take (k + 1)) } ∧ Only (fun j => j = wb) w (setBlock w0.drew wb o)) := Hid.mk ⟨by omega, hk1, hT1, (HI.out.2.2.2.trans (Only.of_new (fun _ => False) hB1) (fun _ q => q.elim)).setBlock (.inl rfl) o⟩
      unfold lkO at hw0
      clear HI hT1 hB1 x1 hc hgF hgl hgw hl hk1
      go_wp2
      rw [← hw0]
      clear hw0
      go_region
      go_wp2
      go_roundw
      case rel => exact ⟨k + 1, rfl, HN⟩
      case measure => (have := HLT.out; simp [Go.RowKit.intOf]; omega)
    · obtain rfl : k = n := by have := HI.out.1; omega
      have etk : G.take k = G := List.take_of_length_le (by omega)
      obtain ⟨_, hknw, hT, hO⟩ := HI.out
      rw [etk] at hT
      have hOF : Only F w wr := hO.mono (fun j _ q => by rw [q]; exact hFw.1)
      have c1 : wr.cell? ⟨t, 1, none⟩ = some (.map D.rm) := hT.cells.2.1
      have ha : Td.abs { D with nw := D.nw - k, waits := unwait D.waits G } = ⟨D.abs.held, D.abs.rows, unwait D.waits G⟩ := rfl
      cases hi : D.rows tg with
      | none =>
        have q1 : (Instr.lookup 51 (.map D.rm) (.int .i64 tg) false).run Try.prog wr = .ok (.pointer none) wr := hT.lookR_none htg hi
        have q2 := ner_none
        have HF : Hid (TbAt F wr t { D with nw := D.nw - k, waits := unwait D.waits G } ∧ Only F w wr ∧ Td.abs { D with nw := D.nw - k, waits := unwait D.waits G } = ⟨D.abs.held, updC D.abs.rows tg (cleanR (D.abs.rows tg)), unwait D.waits G⟩ ∧ SameH D { D with nw := D.nw - k, waits := unwait D.waits G } ∧ D.nw - k + k = D.nw ∧ ∀ B, RB B D → RB B { D with nw := D.nw - k, waits := unwait D.waits G }) := Hid.mk ⟨hT, hOF, by rw [ha, updC_id _ _ _ (by rw [absr_at hi]; rfl)], ⟨rfl, rfl, rfl, rfl, rfl⟩, by omega, fun B hB => hB⟩
        rw [hrb] at c1 q1
        clear HI hT hO hOF ha hi
        go_wp2
        go_end0
        exact ⟨rfl, _, by first | exact HF | (rw [hn] at HF; exact HF) | (rw [← hn]; exact HF) | (simp only [hn] at HF ⊢; exact HF)⟩
      | some x =>
        have q1 : (Instr.lookup 51 (.map D.rm) (.int .i64 tg) false).run Try.prog wr = .ok (ptV x.b) wr := hT.lookR_some htg hi
        have q2 := ner_some x.b
        have HE := hT.empty (i := tg) (x := x) hi
        by_cases h0 : x.L.length = 0
        · have hL0 : x.L = [] := List.eq_nil_of_length_eq_zero h0
          rw [decide_eq_true h0] at HE
          obtain ⟨o, p1, hm⟩ := hT.rdel hrb htg hi 0
          have hFr := (hT.rown hrb).1
          have hT2 := hT.rowDel hrb ((Only.refl (fun j => j = rb) wr).setBlock (.inl rfl) o) hm
          have HF : Hid (TbAt F (setBlock wr rb o) t { D with nr := D.nr - 1, nw := D.nw - k, rows := updC D.rows tg none, waits := unwait D.waits G } ∧ Only F w (setBlock wr rb o) ∧ Td.abs { D with nr := D.nr - 1, nw := D.nw - k, rows := updC D.rows tg none, waits := unwait D.waits G } = ⟨D.abs.held, updC D.abs.rows tg (cleanR (D.abs.rows tg)), unwait D.waits G⟩ ∧ SameH D { D with nr := D.nr - 1, nw := D.nw - k, rows := updC D.rows tg none, waits := unwait D.waits G } ∧ D.nw - k + k = D.nw ∧ ∀ B, RB B D → RB B { D with nr := D.nr - 1, nw := D.nw - k, rows := updC D.rows tg none, waits := unwait D.waits G }) := Hid.mk ⟨hT2, hOF.setBlock (.inl hFr) o, by
            rw [abs_rows, absr_at hi]
            simp [hL0, cleanR], ⟨rfl, rfl, rfl, rfl, rfl⟩, by omega, fun B hB => ⟨by have := hB.1; show D.nr - 1 ≤ B; omega, fun j y hj => by
              by_cases e : j = tg
              · subst e
                have e1 := (updC_same D.rows j none).symm.trans hj
                cases e1
              · exact hB.2 j y ((updC_other D.rows none e).symm.trans hj)⟩⟩
          rw [hrb] at c1 q1
          have HE := Hid.mk HE
          clear HI hT hT2 hO hOF ha hi hm hFr
          go_wp2_with (first
            | (go_at_call 31; refine HE.out.mono ?_; rintro e w2 ⟨rfl, hw2⟩; have hw2' := hw2.symm; clear hw2; subst hw2')
            | go_in)
          go_end0
          exact ⟨rfl, _, by first | exact HF | (rw [hn] at HF; exact HF) | (rw [← hn]; exact HF) | (simp only [hn] at HF ⊢; exact HF)⟩
        · rw [decide_eq_false h0] at HE
          have HF : Hid (TbAt F wr t { D with nw := D.nw - k, waits := unwait D.waits G } ∧ Only F w wr ∧ Td.abs { D with nw := D.nw - k, waits := unwait D.waits G } = ⟨D.abs.held, updC D.abs.rows tg (cleanR (D.abs.rows tg)), unwait D.waits G⟩ ∧ SameH D { D with nw := D.nw - k, waits := unwait D.waits G } ∧ D.nw - k + k = D.nw ∧ ∀ B, RB B D → RB B { D with nw := D.nw - k, waits := unwait D.waits G }) := Hid.mk ⟨hT, hOF, by
            rw [ha, updC_id]
            rw [absr_at hi]
            cases hl : x.L with
            | nil => rw [hl] at h0; exact absurd rfl h0
            | cons a r => simp [hl, cleanR], ⟨rfl, rfl, rfl, rfl, rfl⟩, by omega, fun B hB => hB⟩
          have HE := Hid.mk HE
          rw [hrb] at c1 q1
          clear HI hT hO hOF ha hi
          go_wp2_with (first
            | (go_at_call 31; refine HE.out.mono ?_; rintro e w2 ⟨rfl, hw2⟩; have hw2' := hw2.symm; clear hw2; subst hw2')
            | go_in)
          go_end0
          exact ⟨rfl, _, by first | exact HF | (rw [hn] at HF; exact HF) | (rw [← hn]; exact HF) | (simp only [hn] at HF ⊢; exact HF)⟩
end
end Go.Proofs.Ytoediflikoedaaa
