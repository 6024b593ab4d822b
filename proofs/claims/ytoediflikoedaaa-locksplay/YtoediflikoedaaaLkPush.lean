/-
  One more in a row of those that wait: push.
-/
import Derived.Test.YtoediflikoedaaaLkRow
import Derived.Test.YtoediflikoedaaaLkHeld
namespace Go.Proofs.Ytoediflikoedaaa
open Go Go.Proofs Go.RowKit Go.Shelf
attribute [local go_sem] Oper.semAt_some
theorem wp_region_but {P : Program} {ops : Array Oper} {Q : Exit → Act → World → Prop} {id : Nat} {a : Act} {w : World} (L : Nat) (S : World → Prop) (hm : P.follows .mixedOrders = true) (hS : S w.drew)
    (h : S w.drew → Butt P .any ops Q S L ops.size (Array.replicate ops.size false) a w.drew) : (Code.region id ops true).wp P Q a w := wp_region_any hm (any_of_butt _ _ _ _ (h hS))
theorem exec_append {P : Program} {ev : Operand → Value} {oi : Oper} {s x : Operand} {t u : TypeId} {v vx v' : Value} {w w' : World} (ho : oi.op = .call { callee := .builtin .append, args := #[s, x], argTypes := #[t, u] }) (hs : ev s = v) (hx : ev x = vx) (hrun : (Builtin.append_ #[t, u] oi.type #[v, vx]).run P w = .ok v' w') : (execOp ev oi).run P w = .ok (.value v') w' := by
  unfold execOp
  simp only [ho, resolve, invoke, builtin, Sem.run_bind, Sem.run_pure, Result.andThen_ok, List.map_toArray, List.map_cons, List.map_nil, hs, hx, hrun]
theorem exec_storeS {ev : Operand → Value} {oi : Oper} {p x : Operand} {a : Addr} {ao : Option Addr} {n c : Nat} {u : Value} {W : World} (ho : oi.op = .store 27 p x) (hp : ev p = .pointer (some a)) (hx : ev x = .slice ao n c) (hc : W.cell? a = some u) (hf : W.frozen? a = false) : (execOp ev oi).run Try.prog W = .ok .skip (W.setCell a (.slice ao n c)) := by
  unfold execOp
  simp only [ho, hp, hx]
  go_simp
theorem exec_loadL {ev : Operand → Value} {oi : Oper} {x : Operand} {g o : Nat} {l : Lk} {W : World} (ho : oi.op = .load 31 x) (hx : ev x = .pointer (some ⟨g, o, none⟩)) (c0 : W.cell? ⟨g, o, none⟩ = some (.int .i64 l.th)) (c1 : W.cell? ⟨g, o + 1, none⟩ = some (.int .i64 l.tg)) (c2 : W.cell? ⟨g, o + 2, none⟩ = some (.bool l.al)) : (execOp ev oi).run Try.prog W = .ok (.value (lkV l)) W := by
  unfold execOp lkV
  simp only [ho, hx]
  go_simp
theorem exec_oneL {ev : Operand → Value} {oi : Oper} {x : Operand} {l : Lk} {W : World} (ho : oi.op = .buildSlice 27 1 #[(0, x)]) (hx : ev x = lkV l) : (execOp ev oi).run Try.prog W = .ok (.value (.slice (some ⟨W.heap.size, 0, none⟩) 1 1)) (W.alloc (.cells (lkC l).toArray 31)) := by
  obtain ⟨i0, hi, hz0, hz1, hz2⟩ := info31p
  unfold execOp
  rw [ho]
  simp only [hx, List.map_toArray, List.map_cons, List.map_nil]
  simp [Instr.buildSlice, run_underlying Try.underlying27, zeroValue, typeInfo, hi, hz0, hz1, newRow, lkV, Value.cells, lkC, Instr.fill, sizeOf]
  rw [show Array.range 3 = #[0, 1, 2] from by decide]
  simp
theorem SlOk.kept {W W' : World} {v : Value} {L : List Lk} (h : SlOk W v L) (hk : ∀ g, v.ownBlock = some g → W'.heap[g]? = W.heap[g]?) : SlOk W' v L := by
  rcases h with h | ⟨g, hg, off, cap, cur, h1, h2, h3⟩
  · exact .inl h
  · exact .inr ⟨g, hg, off, cap, cur, h1, (hk g hg).trans h2, h3⟩
theorem SlOk.lt {W : World} {v : Value} {L : List Lk} (h : SlOk W v L) {g : Nat} (hg : v.ownBlock = some g) : g < W.heap.size := by
  rcases h with ⟨rfl, _⟩ | ⟨g', hg', off, cap, cur, h1, h2, h3⟩
  · cases hg
  · have : g' = g := Option.some.inj (hg'.symm.trans hg)
    subst this
    exact lt_of_block h2
set_option maxRecDepth 100000 in
set_option maxHeartbeats 2000000 in
theorem push_any (w : World) (b : Nat) (v : Value) (L : List Lk) (l : Lk) (hb : w.heap[b]? = some (.cells #[v] 76 (0, 0))) (h : SlOk w v L) (hgb : v.ownBlock ≠ some b) (hn : L.length ≤ 1000000) :
    Calls Try.prog 42 #[ptV b, lkV l] w fun e w' => e = .returned (.tuple #[]) ∧ ∃ v' g', Hid (w'.heap[b]? = some (.cells #[v'] 76 (0, 0)) ∧ v'.ownBlock = some g' ∧ RwAt w' g' v' (L ++ [l]) ∧ (v.ownBlock = some g' ∨ w.heap.size ≤ g') ∧ g' < w'.heap.size ∧ g' ≠ b ∧ Only (fun k => k = b ∨ k = g') w w') := by
  obtain ⟨w0, hw0⟩ : ∃ w0, w0 = w.alloc (.cells #[.int .i64 l.th, .int .i64 l.tg, .bool l.al] 31) := ⟨_, rfl⟩
  have hblt := lt_of_block hb
  have hsz0 : w0.drew.heap.size = w.heap.size + 1 := by rw [hw0]; simp
  have hb0 : w0.drew.heap[b]? = some (.cells #[v] 76 (0, 0)) := by rw [hw0]; exact (Below.heap_alloc _ _ _ hblt).trans hb
  have hx0 : w0.drew.heap[w.heap.size]? = some (.cells #[.int .i64 l.th, .int .i64 l.tg, .bool l.al] 31) := by rw [hw0]; exact blk_new w _
  have h0 : SlOk w0.drew v L := h.kept (fun g hg => by rw [hw0]; exact Below.heap_alloc _ _ _ (h.lt hg))
  obtain ⟨v7, g7, W7, hr7, e7, hR7, hn7, hO7⟩ := appendl h0 l hn
  obtain ⟨vo, vc, ev⟩ := h.slice
  obtain ⟨vo7, vc7, ev7⟩ : ∃ vo vc, v7 = .slice vo (L.length + 1) vc := by
    obtain ⟨off, cap, cur, e, -⟩ := hR7
    exact ⟨some ⟨g7, off, none⟩, cap, by rw [e]; simp⟩
  subst ev ev7
  have hg7b : g7 ≠ b := fun e => by
    rcases hn7 with q | q
    · exact hgb (by rw [q, e])
    · omega
  have hg7l : g7 < W7.heap.size := by
    obtain ⟨off, cap, cur, _, e, -⟩ := hR7
    exact lt_of_block e
  have hb6 : (w0.drew.alloc (.cells (lkC l).toArray 31)).heap[b]? = some (.cells #[.slice vo L.length vc] 76 (0, 0)) := (Below.heap_alloc _ _ _ (by omega)).trans hb0
  have hb7 : W7.heap[b]? = some (.cells #[.slice vo L.length vc] 76 (0, 0)) := (hO7.block b (by omega) (fun e => hg7b e.symm)).trans hb0
  have hx6 : (w0.drew.alloc (.cells (lkC l).toArray 31)).heap[w.heap.size]? = some (.cells #[.int .i64 l.th, .int .i64 l.tg, .bool l.al] 31) := (Below.heap_alloc _ _ _ (by omega)).trans hx0
  have hx7 : W7.heap[w.heap.size]? = some (.cells #[.int .i64 l.th, .int .i64 l.tg, .bool l.al] 31) := (hO7.block _ (by omega) (fun e => by
    rcases hn7 with q | q
    · have := h.lt q; omega
    · omega)).trans hx0
  have hS : ∀ W : World, W.heap[b]? = some (.cells #[.slice vo L.length vc] 76 (0, 0)) → W.heap[w.heap.size]? = some (.cells #[.int .i64 l.th, .int .i64 l.tg, .bool l.al] 31) → W.cell? ⟨b, 0, none⟩ = some (.slice vo L.length vc) ∧ W.cell? ⟨w.heap.size, 0, none⟩ = some (.int .i64 l.th) ∧ W.cell? ⟨w.heap.size, 0 + 1, none⟩ = some (.int .i64 l.tg) ∧ W.cell? ⟨w.heap.size, 0 + 2, none⟩ = some (.bool l.al) := fun W p q => ⟨by rw [blk_cell p]; rfl, by rw [blk_cell q]; rfl, by rw [blk_cell q]; rfl, by rw [blk_cell q]; rfl⟩
  have hH := hS w0.drew hb0 hx0
  have HS6 := Hid.mk (hS _ hb6 hx6)
  have HS7 := Hid.mk (hS _ hb7 hx7)
  have HFZ : Hid (W7.frozen? ⟨b, 0, none⟩ = false) := Hid.mk (blk_free hb7 0)
  have HAPP := Hid.mk hr7
  have HW0 : Hid (Only (fun k => k = b ∨ k = g7) w W7) := Hid.mk ((by rw [hw0]; exact ((Only.refl (fun k => k = b ∨ k = g7) w).alloc _).drew : Only (fun k => k = b ∨ k = g7) w w0.drew).trans hO7 (fun i hi => .inl (.inr hi)))
  have HF : Hid ((W7.setCell ⟨b, 0, none⟩ (.slice vo7 (L.length + 1) vc7)).heap[b]? = some (.cells #[.slice vo7 (L.length + 1) vc7] 76 (0, 0)) ∧ (Value.slice vo7 (L.length + 1) vc7).ownBlock = some g7 ∧ RwAt (W7.setCell ⟨b, 0, none⟩ (.slice vo7 (L.length + 1) vc7)) g7 (.slice vo7 (L.length + 1) vc7) (L ++ [l]) ∧ ((Value.slice vo L.length vc).ownBlock = some g7 ∨ w.heap.size ≤ g7) ∧ g7 < (W7.setCell ⟨b, 0, none⟩ (.slice vo7 (L.length + 1) vc7)).heap.size ∧ g7 ≠ b ∧ Only (fun k => k = b ∨ k = g7) w (W7.setCell ⟨b, 0, none⟩ (.slice vo7 (L.length + 1) vc7))) := Hid.mk ⟨by
    rw [blk_set hb7]
    rfl, e7, (Sh.At.kept (c := .ls 0 _ _) hR7 (Below.heap_setCell _ _ _ _ hg7b) : Sh.At _ _ (.ls 0 _ _)), hn7.imp (fun q => q) (fun q => by omega), by simpa using hg7l, hg7b, HW0.out.setCell (p := ⟨b, 0, none⟩) (.inl (.inl rfl)) _⟩
  clear hr7 hn7 e7 hR7 hO7 h hb hgb hblt hb6 hb7 hb0 hx0 hx6 hx7 hS HW0 hg7l hg7b h0 hsz0
  unfold lkV
  go_enter Try.func42, Try.ntmps42
  go_wp2
  rw [← hw0]
  clear hw0
  refine wp_region_but 10 (fun W => W.cell? ⟨b, 0, none⟩ = some (.slice vo L.length vc) ∧ W.cell? ⟨w.heap.size, 0, none⟩ = some (.int .i64 l.th) ∧ W.cell? ⟨w.heap.size, 0 + 1, none⟩ = some (.int .i64 l.tg) ∧ W.cell? ⟨w.heap.size, 0 + 2, none⟩ = some (.bool l.al)) (by kernel_rfl) hH (fun hH => ?_)
  refine takeL 0 4 (.pointer (some ⟨b, 0, none⟩)) rfl (by kernel_rfl) (by kernel_rfl) (by kernel_rfl) (by kernel_rfl) (by kernel_rfl) (fun _ _ _ h => h) (by kernel_rfl) (fun w hw => by kernel_rfl) hH ?_
  simp only [List.setIfInBounds_toArray, List.set_cons_zero, List.set_cons_succ]
  refine takeL 1 5 (.pointer (some ⟨b, 0, none⟩)) rfl (by kernel_rfl) (by kernel_rfl) (by kernel_rfl) (by kernel_rfl) (by kernel_rfl) (fun _ _ _ h => h) (by kernel_rfl) (fun w hw => by kernel_rfl) hH ?_
  simp only [List.setIfInBounds_toArray, List.set_cons_zero, List.set_cons_succ]
  refine takeL 2 6 (.pointer (some ⟨b, 0, none⟩)) rfl (by kernel_rfl) (by kernel_rfl) (by kernel_rfl) (by kernel_rfl) (by kernel_rfl) (fun _ _ _ h => h) (by kernel_rfl) (fun w hw => by go_simp) hH ?_
  simp only [List.setIfInBounds_toArray, List.set_cons_zero, List.set_cons_succ]
  refine takeL 3 7 (.pointer (some ⟨b, 0, none⟩)) rfl (by kernel_rfl) (by kernel_rfl) (by kernel_rfl) (by kernel_rfl) (by kernel_rfl) (fun _ _ _ h => h) (by kernel_rfl) (fun w hw => by go_simp) hH ?_
  simp only [List.setIfInBounds_toArray, List.set_cons_zero, List.set_cons_succ]
  refine takeL 4 8 (.slice vo L.length vc) rfl (by kernel_rfl) (by kernel_rfl) (by kernel_rfl) (by kernel_rfl) (by kernel_rfl) (fun _ _ _ h => h) (by kernel_rfl) (fun w hw => by (try dsimp only at hw); obtain ⟨hw1, hw2, hw3, hw4⟩ := hw; go_simp) hH ?_
  simp only [List.setIfInBounds_toArray, List.set_cons_zero, List.set_cons_succ]
  refine takeL 5 9 (lkV l) rfl (by kernel_rfl) (by kernel_rfl) (by kernel_rfl) (by kernel_rfl) (by kernel_rfl) (fun _ _ _ h => h) (by kernel_rfl) (fun w hw => by (try dsimp only at hw); obtain ⟨hw1, hw2, hw3, hw4⟩ := hw; exact exec_loadL (x := .tmp 3) (by kernel_rfl) (by kernel_rfl) hw2 hw3 hw4) hH ?_
  simp only [List.setIfInBounds_toArray, List.set_cons_zero, List.set_cons_succ]
  refine stepL_run 6 10 (.slice (some ⟨w0.drew.heap.size, 0, none⟩) 1 1) (w0.drew.alloc (.cells (lkC l).toArray 31)) rfl (by kernel_rfl) (by kernel_rfl) (by kernel_rfl) (exec_oneL (x := .tmp 9) (by kernel_rfl) (by kernel_rfl)) HS6.out ?_
  simp only [List.setIfInBounds_toArray, List.set_cons_zero, List.set_cons_succ]
  refine stepL_run 7 11 (.slice vo7 (L.length + 1) vc7) W7 rfl (by kernel_rfl) (by kernel_rfl) (by kernel_rfl) (exec_append (s := .tmp 8) (x := .tmp 10) (by kernel_rfl) (by kernel_rfl) (by kernel_rfl) HAPP.out) HS7.out ?_
  simp only [List.setIfInBounds_toArray, List.set_cons_zero, List.set_cons_succ]
  refine stepL_run 8 12 (.pointer (some ⟨b, 0, none⟩)) W7 rfl (by kernel_rfl) (by kernel_rfl) (by kernel_rfl) (by go_simp) HS7.out ?_
  simp only [List.setIfInBounds_toArray, List.set_cons_zero, List.set_cons_succ]
  refine stepL_run 9 13 (.pointer (some ⟨b, 0, none⟩)) W7 rfl (by kernel_rfl) (by kernel_rfl) (by kernel_rfl) (by go_simp) HS7.out ?_
  simp only [List.setIfInBounds_toArray, List.set_cons_zero, List.set_cons_succ]
  refine lastL (W7.setCell ⟨b, 0, none⟩ (.slice vo7 (L.length + 1) vc7)) rfl (by kernel_rfl) (by kernel_rfl) (by kernel_rfl) (exec_storeS (p := .tmp 13) (x := .tmp 11) (by kernel_rfl) (by kernel_rfl) (by kernel_rfl) HS7.out.1 HFZ.out) (by kernel_rfl) ?_
  go_wp2
  go_end0
  exact ⟨rfl, _, _, HF⟩
end Go.Proofs.Ytoediflikoedaaa
