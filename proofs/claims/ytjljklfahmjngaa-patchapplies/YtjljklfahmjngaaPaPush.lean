/-
  A change more in a heap's row: Push of pile.
-/
import Derived.Test.YtjljklfahmjngaaPaPop
import Derived.Test.YtjljklfahmjngaaPaRDiff
import Derived.Maps.AppendAt
namespace Go.Proofs.Ytjljklfahmjngaa
open Go Go.Proofs Go.RowKit Go.Shelf
attribute [local go_sem] Oper.semAt_some
def spC (s : Int × Pt) : List Value := .int .i64 s.1 :: s.2.cs
def spV (s : Int × Pt) : Value := .agg #[.int .i64 s.1, .int .i64 s.2.id, .int .i64 s.2.at', .slice s.2.ao s.2.n s.2.c]
theorem info56 : (Try.prog.info? 56).map (fun i => (i.zero, i.size, i.bytes)) = some (some (.agg #[.int .i64 0, .int .i64 0, .int .i64 0, .slice none 0 0]), 4, 48) := by kernel_rfl
theorem info56p : ∃ i0, Try.prog.info? 56 = some i0 ∧ i0.zero = some (.agg #[.int .i64 0, .int .i64 0, .int .i64 0, .slice none 0 0]) ∧ i0.size = 4 ∧ i0.bytes = 48 := by
  cases h : Try.prog.info? 56 with
  | none => have := info56; rw [h] at this; cases this
  | some i =>
    have h2 := info56
    rw [h] at h2
    simp at h2
    exact ⟨i, rfl, h2.1, h2.2⟩
theorem exec_assert {ev : Operand → Value} {oi : Oper} {x : Operand} {s : Int × Pt} {W : World} (ho : oi.op = .typeAssert x 20 56 false) (hx : ev x = .iface 56 (spV s)) : (execOp ev oi).run Try.prog W = .ok (.value (spV s)) W := by
  unfold execOp
  rw [ho]
  simp only [hx]
  unfold spV
  simp [Instr.typeAssert, run_underlying Try.underlying56]
theorem exec_one56 {ev : Operand → Value} {oi : Oper} {x : Operand} {s : Int × Pt} {W : World} (ho : oi.op = .buildSlice 47 1 #[(0, x)]) (hx : ev x = spV s) : (execOp ev oi).run Try.prog W = .ok (.value (.slice (some ⟨W.heap.size, 0, none⟩) 1 1)) (W.alloc (.cells (spC s).toArray 56)) := by
  obtain ⟨i0, hi, hz0, hz1, hz2⟩ := info56p
  unfold execOp
  rw [ho]
  simp only [hx, List.map_toArray, List.map_cons, List.map_nil]
  simp [Instr.buildSlice, run_underlying Try.underlying47, zeroValue, typeInfo, hi, hz0, hz1, newRow, spV, Value.cells, spC, Pt.cs, paC, Pt.val, Instr.fill, sizeOf]
  rw [show Array.range 4 = #[0, 1, 2, 3] from by decide]
  simp
theorem exec_store47 {ev : Operand → Value} {oi : Oper} {p x : Operand} {a : Addr} {ao : Option Addr} {n c : Nat} {u : Value} {W : World} (ho : oi.op = .store 47 p x) (hp : ev p = .pointer (some a)) (hx : ev x = .slice ao n c) (hc : W.cell? a = some u) (hf : W.frozen? a = false) : (execOp ev oi).run Try.prog W = .ok .skip (W.setCell a (.slice ao n c)) := by
  unfold execOp
  simp only [ho, hp, hx]
  go_simp
theorem spC_one (s : Int × Pt) : ∀ u ∈ spC s, u.oneCell' = true := by
  intro u hu
  rcases List.mem_cons.1 hu with rfl | hu
  · rfl
  · exact paC_one s.2 u hu
theorem appends_run (W : World) (B : Nat) (v : Value) (n : Nat) (H : List (Int × Pt)) (s : Int × Pt) (hown : W.ownsRow B 56 4 v n (Sy H)) (hB : B ≤ W.heap.size) (hn : n ≤ 1000) :
    ∃ v' W', (Builtin.append_ #[47, 47] 47 #[v, .slice (some ⟨W.heap.size, 0, none⟩) 1 1]).run Try.prog (W.alloc (.cells (spC s).toArray 56)) = .ok v' W' ∧ W'.ownsRow B 56 4 v' (n + 1) (Sy (H ++ [s])) ∧ (W.alloc (.cells (spC s).toArray 56)).grownBy W' v.ownBlock ∧ (v'.ownBlock = v.ownBlock ∨ v'.ownBlock = some (W.heap.size + 1)) := by
  obtain ⟨i0, hi, hz0, hz1, hz2⟩ := info56p
  have hnew := blk_new W (.cells (spC s).toArray 56)
  obtain ⟨v3, W3, hr, hown3, hg3, _, hat⟩ := run_append_own_at (P := Try.prog) (W.alloc (.cells (spC s).toArray 56)) B 47 47 56 i0 (.agg #[.int .i64 0, .int .i64 0, .int .i64 0, .slice none 0 0]) 4 48 Try.underlying47 hi hz0 hz1 hz2 rfl (by decide) v n (Sy H) (hown.alloc _) ⟨W.heap.size, 0, none⟩ 1 1 (spC s) rfl (fun j u hj => by
    match j, hj with
    | 0, hj => cases hj; rw [add_at, blk_cell hnew]; rfl
    | 1, hj => cases hj; rw [add_at, blk_cell hnew]; rfl
    | 2, hj => cases hj; rw [add_at, blk_cell hnew]; rfl
    | 3, hj => cases hj; rw [add_at, blk_cell hnew]; rfl) (spC_one s) (by unfold maxLen; omega) (by omega) (by simp; omega)
  have e : Sy H ++ spC s = Sy (H ++ [s]) := by rw [Sy_append]; simp [Sy, spC]
  rw [e] at hown3
  rw [World.size_alloc] at hat
  exact ⟨v3, W3, hr, hown3, hg3, hat⟩
set_option maxRecDepth 100000 in
set_option maxHeartbeats 2000000 in
theorem ppush_any (w : World) (base b : Nat) (v : Value) (n : Nat) (H : List (Int × Pt)) (s : Int × Pt) (hb : w.heap[b]? = some (.cells #[v] 47 (0, 0))) (h : w.ownsRow base 56 4 v n (Sy H)) (hbb : base ≤ w.heap.size) (hgb : v.ownBlock ≠ some b) (hn : n ≤ 1000) :
    Calls Try.prog 80 #[.pointer (some ⟨b, 0, none⟩), .iface 56 (spV s)] w fun e w' => (∃ u, e = .returned u) ∧ ∃ v', Hid (w'.heap[b]? = some (.cells #[v'] 47 (0, 0)) ∧ w'.ownsRow base 56 4 v' (n + 1) (Sy (H ++ [s])) ∧ v'.ownBlock ≠ some b ∧ Only (fun k => k = b ∨ v.ownBlock = some k) w w' ∧ ∀ k, v'.ownBlock = some k → v.ownBlock = some k ∨ w.heap.size ≤ k) := by
  have hdw : w.drew.ownsRow base 56 4 v n (Sy H) := h
  obtain ⟨v7, W7, hr7, ho7, hg7, hat7⟩ := appends_run w.drew base v n H s hdw hbb hn
  obtain ⟨vo, vc, ev⟩ : ∃ vo vc, v = .slice vo n vc := by
    rcases h.2 with ⟨e, e2⟩ | ⟨g, cap, cur, e, -⟩
    · have : n = 0 := e2
      subst this; exact ⟨none, 0, e⟩
    · exact ⟨_, _, e⟩
  obtain ⟨vo7, vc7, ev7⟩ : ∃ vo vc, v7 = .slice vo (n + 1) vc := by
    rcases ho7.2 with ⟨-, e2⟩ | ⟨g, cap, cur, e, -⟩
    · omega
    · exact ⟨_, _, e⟩
  subst ev ev7
  have hblt := lt_of_block hb
  have hsz : w.drew.heap.size = w.heap.size := rfl
  have hs6 : (w.drew.alloc (.cells (spC s).toArray 56)).heap.size = w.heap.size + 1 := by simp [hsz]
  have hb6 : (w.drew.alloc (.cells (spC s).toArray 56)).heap[b]? = some (.cells #[.slice vo n vc] 47 (0, 0)) := (Below.heap_alloc _ _ _ hblt).trans hb
  have hb7 : W7.heap[b]? = some (.cells #[.slice vo n vc] 47 (0, 0)) := (hg7.block b (by omega) (fun e => hgb e.symm)).trans hb6
  have hne7 : (Value.slice vo7 (n + 1) vc7).ownBlock ≠ some b := fun e => by
    rcases ho7.2 with ⟨e1, -⟩ | ⟨g, cap, cur, e1, _, hh, _⟩
    · rw [e1] at e; cases e
    · rw [e1] at e
      obtain rfl : g = b := Option.some.inj e
      rw [hb7] at hh
      cases hh
  have hO7 : Only (fun k => (Value.slice vo n vc).ownBlock = some k) w W7 := ((Only.refl _ w).drew.alloc _).grown hg7 (fun k hk => .inl hk)
  have hH : w.drew.cell? ⟨b, 0, none⟩ = some (.slice vo n vc) := by rw [blk_cell (w := w.drew) hb]; rfl
  have HS6 : Hid ((w.drew.alloc (.cells (spC s).toArray 56)).cell? ⟨b, 0, none⟩ = some (.slice vo n vc)) := Hid.mk (by rw [blk_cell hb6]; rfl)
  have HS7 : Hid (W7.cell? ⟨b, 0, none⟩ = some (.slice vo n vc)) := Hid.mk (by rw [blk_cell hb7]; rfl)
  have HFZ : Hid (W7.frozen? ⟨b, 0, none⟩ = false) := Hid.mk (blk_free hb7 0)
  have HAPP := Hid.mk hr7
  have HF : Hid ((W7.setCell ⟨b, 0, none⟩ (.slice vo7 (n + 1) vc7)).heap[b]? = some (.cells #[.slice vo7 (n + 1) vc7] 47 (0, 0)) ∧ (W7.setCell ⟨b, 0, none⟩ (.slice vo7 (n + 1) vc7)).ownsRow base 56 4 (.slice vo7 (n + 1) vc7) (n + 1) (Sy (H ++ [s])) ∧ (Value.slice vo7 (n + 1) vc7).ownBlock ≠ some b ∧ Only (fun k => k = b ∨ (Value.slice vo n vc).ownBlock = some k) w (W7.setCell ⟨b, 0, none⟩ (.slice vo7 (n + 1) vc7)) ∧ ∀ k, (Value.slice vo7 (n + 1) vc7).ownBlock = some k → (Value.slice vo n vc).ownBlock = some k ∨ w.heap.size ≤ k) := Hid.mk ⟨by
    rw [blk_set hb7]
    rfl, owns_at ho7 (fun k hk => Below.heap_setCell _ _ _ _ (fun e => hne7 (by rw [hk, e]))), hne7, (hO7.mono (fun k _ hk => .inr hk)).setCell (p := ⟨b, 0, none⟩) (.inl (.inl rfl)) _, fun k hk => by
      rcases hat7 with e | e
      · rw [e] at hk; exact .inl hk
      · rw [e] at hk; cases hk; exact .inr (by rw [hsz]; exact Nat.le_succ _)⟩
  clear hdw hr7 ho7 hg7 hat7 h hb hgb hblt hs6 hb6 hb7 hne7 hO7 hsz hbb
  go_enter Try.func80, Try.ntmps80
  go_wp2
  refine wp_region_but 9 (fun W => W.cell? ⟨b, 0, none⟩ = some (.slice vo n vc)) (by kernel_rfl) hH (fun hH => ?_)
  refine takeL 0 4 (.pointer (some ⟨b, 0, none⟩)) rfl (by kernel_rfl) (by kernel_rfl) (by kernel_rfl) (by kernel_rfl) (by kernel_rfl) (fun _ _ _ h => h) (by kernel_rfl) (fun w hw => by kernel_rfl) hH ?_
  simp only [List.setIfInBounds_toArray, List.set_cons_zero, List.set_cons_succ]
  refine takeL 1 5 (.pointer (some ⟨b, 0, none⟩)) rfl (by kernel_rfl) (by kernel_rfl) (by kernel_rfl) (by kernel_rfl) (by kernel_rfl) (fun _ _ _ h => h) (by kernel_rfl) (fun w hw => by kernel_rfl) hH ?_
  simp only [List.setIfInBounds_toArray, List.set_cons_zero, List.set_cons_succ]
  refine takeL 2 6 (.pointer (some ⟨b, 0, none⟩)) rfl (by kernel_rfl) (by kernel_rfl) (by kernel_rfl) (by kernel_rfl) (by kernel_rfl) (fun _ _ _ h => h) (by kernel_rfl) (fun w hw => by go_simp) hH ?_
  simp only [List.setIfInBounds_toArray, List.set_cons_zero, List.set_cons_succ]
  refine takeL 3 7 (.slice vo n vc) rfl (by kernel_rfl) (by kernel_rfl) (by kernel_rfl) (by kernel_rfl) (by kernel_rfl) (fun _ _ _ h => h) (by kernel_rfl) (fun w hw => by (try dsimp only at hw); go_simp) hH ?_
  simp only [List.setIfInBounds_toArray, List.set_cons_zero, List.set_cons_succ]
  refine takeL 4 8 (.iface 56 (spV s)) rfl (by kernel_rfl) (by kernel_rfl) (by kernel_rfl) (by kernel_rfl) (by kernel_rfl) (fun _ _ _ h => h) (by kernel_rfl) (fun w hw => by kernel_rfl) hH ?_
  simp only [List.setIfInBounds_toArray, List.set_cons_zero, List.set_cons_succ]
  refine takeL 5 9 (spV s) rfl (by kernel_rfl) (by kernel_rfl) (by kernel_rfl) (by kernel_rfl) (by kernel_rfl) (fun _ _ _ h => h) (by kernel_rfl) (fun w hw => by exact exec_assert (x := .tmp 8) (by kernel_rfl) (by kernel_rfl)) hH ?_
  simp only [List.setIfInBounds_toArray, List.set_cons_zero, List.set_cons_succ]
  refine stepL_run 6 10 (.slice (some ⟨w.drew.heap.size, 0, none⟩) 1 1) (w.drew.alloc (.cells (spC s).toArray 56)) rfl (by kernel_rfl) (by kernel_rfl) (by kernel_rfl) (exec_one56 (x := .tmp 9) (by kernel_rfl) (by kernel_rfl)) HS6.out ?_
  simp only [List.setIfInBounds_toArray, List.set_cons_zero, List.set_cons_succ]
  refine stepL_run 7 11 (.slice vo7 (n + 1) vc7) W7 rfl (by kernel_rfl) (by kernel_rfl) (by kernel_rfl) (exec_append (s := .tmp 7) (x := .tmp 10) (by kernel_rfl) (by kernel_rfl) (by kernel_rfl) HAPP.out) HS7.out ?_
  simp only [List.setIfInBounds_toArray, List.set_cons_zero, List.set_cons_succ]
  refine stepL_run 8 12 (.pointer (some ⟨b, 0, none⟩)) W7 rfl (by kernel_rfl) (by kernel_rfl) (by kernel_rfl) (by go_simp) HS7.out ?_
  simp only [List.setIfInBounds_toArray, List.set_cons_zero, List.set_cons_succ]
  refine lastL (W7.setCell ⟨b, 0, none⟩ (.slice vo7 (n + 1) vc7)) rfl (by kernel_rfl) (by kernel_rfl) (by kernel_rfl) (exec_store47 (p := .tmp 12) (x := .tmp 11) (by kernel_rfl) (by kernel_rfl) (by kernel_rfl) HS7.out HFZ.out) (by kernel_rfl) ?_
  go_wp2
  go_end0
  exact ⟨⟨_, rfl⟩, _, HF⟩
end Go.Proofs.Ytjljklfahmjngaa
