/-
  What a graph's cells hold.
-/
import Derived.Test.YthmbhcmicebcpaaDpRise
namespace Go.Proofs.Ythmbhcmicebcpaa
open Go Go.Proofs Go.RowKit Go.Shelf
open Go.ChangeMaps (setBlock)
def optV (o : Option Nat) : Value := match o with
  | some b => ptV b
  | none => .pointer none
section
variable {F S : Nat → Prop} {W W' : World} {g : Nat} {D : Gd}
theorem GrAt.drew (h : GrAt F W g D) : GrAt F W.drew g D := h.only ((Only.refl (fun _ => False) W).drew) (fun _ _ _ h => h)
theorem GrAt.grow (h : GrAt F W g D) (hB : Below W.heap.size W W') : GrAt F W' g D := h.only (Only.of_new (fun _ => False) hB) (fun _ _ _ h => h)
theorem GrAt.norm {W1 : World} (h : GrAt (Grown (Grown F W) W1) W' g D) (hs : W.heap.size ≤ W1.heap.size) : GrAt (Grown F W) W' g D :=
  h.mono (fun k _ hk => by
    rcases hk with hk | hk
    · exact hk
    · exact .inr (by omega))
theorem only_grown {W1 W2 : World} (h : Only F W W1) (h2 : Only (Grown F W) W1 W2) : Only F W W2 := h.trans h2 (fun _ h => h)
theorem GrAt.cellsG (h : GrAt F W g D) : W.cell? ⟨g, 0, none⟩ = some (.int .i64 (D.added : Nat)) ∧ W.cell? ⟨g, 1, none⟩ = some (.map D.lm) ∧ W.cell? ⟨g, 2, none⟩ = some (.map D.bm) ∧ ∀ i, W.frozen? ⟨g, i, none⟩ = false := by
  have hb : W.heap[g]? = some _ := h.cont .g
  exact ⟨(blk_cell hb 0).trans rfl, (blk_cell hb 1).trans rfl, (blk_cell hb 2).trans rfl, fun i => blk_free hb i⟩
theorem GrAt.cellsC (h : GrAt F W g D) {i : Int} {c : Cx} (hi : D.ch i = some c) : W.cell? ⟨c.cb, 0, none⟩ = some (.int .i64 i) ∧ W.cell? ⟨c.cb, 1, none⟩ = some (.int .i64 c.buf) ∧ W.cell? ⟨c.cb, 2, none⟩ = some (.map c.om) ∧ W.cell? ⟨c.cb, 3, none⟩ = some c.av ∧ ∀ i, W.frozen? ⟨c.cb, i, none⟩ = false := by
  have hb : W.heap[c.cb]? = some _ := h.cont (.ch i) c hi
  unfold chO at hb
  exact ⟨(blk_cell hb 0).trans rfl, (blk_cell hb 1).trans rfl, (blk_cell hb 2).trans rfl, (blk_cell hb 3).trans rfl, fun i => blk_free hb i⟩
theorem GrAt.cellsB (h : GrAt F W g D) {b : Int} {x : Bx} (hi : D.bf b = some x) : W.cell? ⟨x.bb, 0, none⟩ = some (.map x.nm) ∧ W.cell? ⟨x.bb, 1, none⟩ = some (.map x.km) ∧ ∀ i, W.frozen? ⟨x.bb, i, none⟩ = false := by
  have hb : W.heap[x.bb]? = some _ := h.cont (.bf b) x hi
  unfold bfO at hb
  exact ⟨(blk_cell hb 0).trans rfl, (blk_cell hb 1).trans rfl, fun i => blk_free hb i⟩
theorem zeroP56 (W : World) : (zeroValue 56).run Try.prog W = .ok (.pointer none) W := by kernel_rfl
theorem zeroP61 (W : World) : (zeroValue 61).run Try.prog W = .ok (.pointer none) W := by kernel_rfl
theorem GrAt.lookC (h : GrAt F W g D) {i : Int} (hw : (Lit.int .i64 i).wf = true) : (Instr.lookup 57 (.map D.lm) (.int .i64 i) false).run Try.prog W = .ok (optV ((D.ch i).map (·.cb))) W := by
  have hm : MapAt W D.lm D.nl (leftF D.ch) := h.cont .left
  cases hl : D.lm with
  | none =>
    rw [hl] at hm
    have := hm.2 (.int .i64 i)
    rw [Maps.look_nil false keyed3 Try.underlying57 (zeroP56 W) (key_int hw)]
    cases hc : D.ch i with
    | none => rfl
    | some c => simp [leftF, hc] at this
  | some b =>
    rw [hl] at hm
    rw [MAt.look hm keyed3 Try.underlying57 (zeroP56 W) (key_int hw)]
    cases hc : D.ch i with
    | none => simp [leftF, hc, optV]
    | some c => simp [leftF, hc, optV]
theorem GrAt.lookB (h : GrAt F W g D) {i : Int} (hw : (Lit.int .i64 i).wf = true) : (Instr.lookup 58 (.map D.bm) (.int .i64 i) false).run Try.prog W = .ok (optV ((D.bf i).map (·.bb))) W := by
  have hm : MapAt W D.bm D.nb (bufF D.bf) := h.cont .bufs
  cases hl : D.bm with
  | none =>
    rw [hl] at hm
    have := hm.2 (.int .i64 i)
    rw [Maps.look_nil false keyed3 Try.underlying58 (zeroP61 W) (key_int hw)]
    cases hc : D.bf i with
    | none => rfl
    | some c => simp [bufF, hc] at this
  | some b =>
    rw [hl] at hm
    rw [MAt.look hm keyed3 Try.underlying58 (zeroP61 W) (key_int hw)]
    cases hc : D.bf i with
    | none => simp [bufF, hc, optV]
    | some c => simp [bufF, hc, optV]
/-- A set of a buffer: the one that may be written. -/
theorem GrAt.nxAdd (h : GrAt F W g D) {b : Int} {x : Bx} (hx : D.bf b = some x) (i : Int) (hw : (Lit.int .i64 i).wf = true) (hn : x.nx.length < 1000000) :
    Calls Try.prog 47 #[.pointer (some ⟨x.bb, 0, none⟩), .int .i64 i] W fun e W' => ∃ r, e = .returned r ∧ ∃ nm', GrAt (Grown F W) W' g { D with bf := updC D.bf b (some ⟨insS i x.nx, x.bl, x.bb, nm', x.km⟩) } ∧ Only F W W' ∧ Only (fun k => k = x.bb ∨ x.nm = some k) W W' := by
  have hb : W.heap[x.bb]? = some _ := h.cont (.bf b) x hx
  unfold bfO at hb
  have hs : StAt W x.nm x.nx := h.cont (.nx b) x hx
  have hk : StAt W x.km x.bl := h.cont (.bl b) x hx
  have hne : x.nm ≠ some x.bb := fun e => by have := h.sep (.nx b) (.bf b) x.bb ⟨x, hx, e⟩ ⟨x, hx, rfl⟩; cases this
  refine (add_any W x.bb 0 _ _ x.nm x.nx hb rfl hs hn hne i hw).mono ?_
  rintro e W' ⟨rfl, m', hm', hb', hs', hO⟩
  have hO2 : Only F W W' := hO.mono (fun k hk h' => by
    rcases h' with rfl | h'
    · exact (h.own (.bf b) _ ⟨x, hx, rfl⟩).1
    · exact (h.own (.nx b) _ ⟨x, hx, h'⟩).1)
  refine ⟨_, rfl, m', h.bfTurn (c' := ⟨insS i x.nx, x.bl, x.bb, m', x.km⟩) hx (hO.mono (fun k _ h' => by
    rcases h' with h' | h'
    · exact .inl h'
    · exact .inr (.inl h'))) rfl ?_ (fun k hk => .inl hk) ?_ ?_ hs' ?_, hO2, hO⟩
  · intro k hk
    simp only at hk
    rcases hm' with rfl | ⟨_, q, rfl, hq⟩
    · exact .inl hk
    · cases hk
      exact .inr ⟨hq, StAt.lt hs'⟩
  · intro k h1 h2
    exact h.lt (n := .bl b) ⟨x, hx, h2⟩
  · rw [hb']; rfl
  · refine hk.kept (fun q hq => hO.block q (h.lt (n := .bl b) ⟨x, hx, hq⟩) (fun h' => ?_))
    rcases h' with rfl | h'
    · have := h.sep (.bl b) (.bf b) x.bb ⟨x, hx, hq⟩ ⟨x, hx, rfl⟩; cases this
    · have := h.sep (.bl b) (.nx b) q ⟨x, hx, hq⟩ ⟨x, hx, h'⟩; cases this
theorem GrAt.blAdd (h : GrAt F W g D) {b : Int} {x : Bx} (hx : D.bf b = some x) (i : Int) (hw : (Lit.int .i64 i).wf = true) (hn : x.bl.length < 1000000) :
    Calls Try.prog 47 #[.pointer (some ⟨x.bb, 1, none⟩), .int .i64 i] W fun e W' => ∃ r, e = .returned r ∧ ∃ km', GrAt (Grown F W) W' g { D with bf := updC D.bf b (some ⟨x.nx, insS i x.bl, x.bb, x.nm, km'⟩) } ∧ Only F W W' ∧ Only (fun k => k = x.bb ∨ x.km = some k) W W' := by
  have hb : W.heap[x.bb]? = some _ := h.cont (.bf b) x hx
  unfold bfO at hb
  have hs : StAt W x.km x.bl := h.cont (.bl b) x hx
  have hk : StAt W x.nm x.nx := h.cont (.nx b) x hx
  have hne : x.km ≠ some x.bb := fun e => by have := h.sep (.bl b) (.bf b) x.bb ⟨x, hx, e⟩ ⟨x, hx, rfl⟩; cases this
  refine (add_any W x.bb 1 _ _ x.km x.bl hb rfl hs hn hne i hw).mono ?_
  rintro e W' ⟨rfl, m', hm', hb', hs', hO⟩
  have hO2 : Only F W W' := hO.mono (fun k hk h' => by
    rcases h' with rfl | h'
    · exact (h.own (.bf b) _ ⟨x, hx, rfl⟩).1
    · exact (h.own (.bl b) _ ⟨x, hx, h'⟩).1)
  refine ⟨_, rfl, m', h.bfTurn (c' := ⟨x.nx, insS i x.bl, x.bb, x.nm, m'⟩) hx (hO.mono (fun k _ h' => by
    rcases h' with h' | h'
    · exact .inl h'
    · exact .inr (.inr h'))) rfl (fun k hk => .inl hk) ?_ ?_ ?_ ?_ hs', hO2, hO⟩
  · intro k hk
    simp only at hk
    rcases hm' with rfl | ⟨_, q, rfl, hq⟩
    · exact .inl hk
    · cases hk
      exact .inr ⟨hq, StAt.lt hs'⟩
  · intro k h1 h2
    exact h.lt (n := .nx b) ⟨x, hx, h1⟩
  · rw [hb']; rfl
  · refine hk.kept (fun q hq => hO.block q (h.lt (n := .nx b) ⟨x, hx, hq⟩) (fun h' => ?_))
    rcases h' with rfl | h'
    · have := h.sep (.nx b) (.bf b) x.bb ⟨x, hx, hq⟩ ⟨x, hx, rfl⟩; cases this
    · have := h.sep (.nx b) (.bl b) q ⟨x, hx, hq⟩ ⟨x, hx, h'⟩; cases this
theorem GrAt.nxRem (h : GrAt F W g D) {b : Int} {x : Bx} (hx : D.bf b = some x) (i : Int) (hw : (Lit.int .i64 i).wf = true) :
    Calls Try.prog 56 #[.pointer (some ⟨x.bb, 0, none⟩), .int .i64 i] W fun e W' => ∃ r, e = .returned r ∧ GrAt (Grown F W) W' g { D with bf := updC D.bf b (some ⟨delS i x.nx, x.bl, x.bb, x.nm, x.km⟩) } ∧ Only F W W' ∧ Only (fun k => x.nm = some k) W W' := by
  have hb : W.heap[x.bb]? = some (bfO x) := h.cont (.bf b) x hx
  have hs : StAt W x.nm x.nx := h.cont (.nx b) x hx
  have hk : StAt W x.km x.bl := h.cont (.bl b) x hx
  refine (remove_any W x.bb 0 x.nm x.nx (h.cellsB hx).1 hs i hw).mono ?_
  rintro e W' ⟨rfl, hs', hO⟩
  refine ⟨_, rfl, h.bfTurn (c' := ⟨delS i x.nx, x.bl, x.bb, x.nm, x.km⟩) hx (hO.mono (fun k _ h' => .inr (.inl h'))) rfl (fun k hk => .inl hk) (fun k hk => .inl hk) (fun k h1 _ => h.lt (n := .nx b) ⟨x, hx, h1⟩) ?_ hs' ?_, hO.mono (fun k _ h' => (h.own (.nx b) k ⟨x, hx, h'⟩).1), hO⟩
  · refine (hO.block x.bb (lt_of_block hb) (fun h' => ?_)).trans hb
    have := h.sep (.nx b) (.bf b) x.bb ⟨x, hx, h'⟩ ⟨x, hx, rfl⟩; cases this
  · refine hk.kept (fun q hq => hO.block q (h.lt (n := .bl b) ⟨x, hx, hq⟩) (fun h' => ?_))
    have := h.sep (.bl b) (.nx b) q ⟨x, hx, hq⟩ ⟨x, hx, h'⟩; cases this
theorem GrAt.blRem (h : GrAt F W g D) {b : Int} {x : Bx} (hx : D.bf b = some x) (i : Int) (hw : (Lit.int .i64 i).wf = true) :
    Calls Try.prog 56 #[.pointer (some ⟨x.bb, 1, none⟩), .int .i64 i] W fun e W' => ∃ r, e = .returned r ∧ GrAt (Grown F W) W' g { D with bf := updC D.bf b (some ⟨x.nx, delS i x.bl, x.bb, x.nm, x.km⟩) } ∧ Only F W W' ∧ Only (fun k => x.km = some k) W W' := by
  have hb : W.heap[x.bb]? = some (bfO x) := h.cont (.bf b) x hx
  have hs : StAt W x.km x.bl := h.cont (.bl b) x hx
  have hk : StAt W x.nm x.nx := h.cont (.nx b) x hx
  refine (remove_any W x.bb 1 x.km x.bl (h.cellsB hx).2.1 hs i hw).mono ?_
  rintro e W' ⟨rfl, hs', hO⟩
  refine ⟨_, rfl, h.bfTurn (c' := ⟨x.nx, delS i x.bl, x.bb, x.nm, x.km⟩) hx (hO.mono (fun k _ h' => .inr (.inr h'))) rfl (fun k hk => .inl hk) (fun k hk => .inl hk) (fun k h1 _ => h.lt (n := .nx b) ⟨x, hx, h1⟩) ?_ ?_ hs', hO.mono (fun k _ h' => (h.own (.bl b) k ⟨x, hx, h'⟩).1), hO⟩
  · refine (hO.block x.bb (lt_of_block hb) (fun h' => ?_)).trans hb
    have := h.sep (.bl b) (.bf b) x.bb ⟨x, hx, h'⟩ ⟨x, hx, rfl⟩; cases this
  · refine hk.kept (fun q hq => hO.block q (h.lt (n := .nx b) ⟨x, hx, hq⟩) (fun h' => ?_))
    have := h.sep (.nx b) (.bl b) q ⟨x, hx, hq⟩ ⟨x, hx, h'⟩; cases this
/-- A change hangs on one less. -/
theorem GrAt.onRem (h : GrAt F W g D) {i : Int} {c : Cx} (hi : D.ch i = some c) (y : Int) (hw : (Lit.int .i64 y).wf = true) :
    Calls Try.prog 56 #[.pointer (some ⟨c.cb, 2, none⟩), .int .i64 y] W fun e W' => ∃ r, e = .returned r ∧ GrAt (Grown F W) W' g { D with ch := updC D.ch i (some ⟨c.buf, delS y c.on, c.ab, c.cb, c.om, c.av⟩) } ∧ Only F W W' ∧ Only (fun k => c.om = some k) W W' := by
  have hb : W.heap[c.cb]? = some (chO i c) := h.cont (.ch i) c hi
  have hs : StAt W c.om c.on := h.cont (.on i) c hi
  have hr : W.ownsRow 0 3 1 c.av c.ab.length (Iy c.ab) := h.cont (.ab i) c hi
  refine (remove_any W c.cb 2 c.om c.on (h.cellsC hi).2.2.1 hs y hw).mono ?_
  rintro e W' ⟨rfl, hs', hO⟩
  refine ⟨_, rfl, h.chTurn (c' := ⟨c.buf, delS y c.on, c.ab, c.cb, c.om, c.av⟩) hi (hO.mono (fun k _ h' => .inr (.inl h'))) rfl rfl (.inl rfl) ?_ hs' ?_, hO.mono (fun k _ h' => (h.own (.on i) k ⟨c, hi, h'⟩).1), hO⟩
  · refine (hO.block c.cb (lt_of_block hb) (fun h' => ?_)).trans hb
    have := h.sep (.on i) (.ch i) c.cb ⟨c, hi, h'⟩ ⟨c, hi, rfl⟩; cases this
  · refine row_same hr (fun q hq => hO.block q (h.lt (n := .ab i) ⟨c, hi, hq⟩) (fun h' => ?_))
    have := h.sep (.ab i) (.on i) q ⟨c, hi, hq⟩ ⟨c, hi, h'⟩; cases this
end
end Go.Proofs.Ythmbhcmicebcpaa
