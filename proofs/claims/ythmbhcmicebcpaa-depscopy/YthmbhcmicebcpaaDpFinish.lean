/-
  A change is done: finish.
-/
import Derived.Test.YthmbhcmicebcpaaDpCut
import Derived.Test.YthmbhcmicebcpaaDpDef
import Derived.Test.YthmbhcmicebcpaaDpRows
namespace Go.Proofs.Ythmbhcmicebcpaa
open Go Go.Proofs Go.RowKit Go.Shelf
open Go.ChangeMaps (setBlock)
attribute [local go_sem] Oper.semAt_some
theorem exec_del {ev : Operand → Value} {oi : Oper} {m x : Operand} {t : TypeId} {vm vx : Value} {W W' : World} (ho : oi.op = .call { callee := .builtin .delete, args := #[m, x], argTypes := #[t, 3] }) (hm : ev m = vm) (hx : ev x = vx) (hr : (Builtin.delete_ #[t, 3] oi.type #[vm, vx]).run Try.prog W = .ok (.tuple #[]) W') : (execOp ev oi).run Try.prog W = .ok (.value (.tuple #[])) W' := by
  unfold execOp
  simp only [ho, resolve, invoke, builtin, Sem.run_bind, Sem.run_pure, Result.andThen_ok, List.map_toArray, List.map_cons, List.map_nil, hm, hx, hr]
section
variable {P : Program} {md : Region.Mode} {ops : Array Oper} {Q : Exit → Act → World → Prop} {S : World → Prop} {fuel : Nat} {listed : Array Bool} {t : Array Value} {w : World}
theorem opH_drop (i : Nat) (w' : World) (v : Value) {oi : Oper} (hi : ops[i]? = some oi) (hd : oi.dst = none) (hw : Region.wanted oi (yielded ops t) = true)
    (hrun : (execOp (Act.eval { tmps := t, defers := [] }) oi).run P w = .ok (.value v) w') (hS : S w')
    (h : wpAnyH P md ops Q S fuel (listed.setIfInBounds i true) { tmps := t, defers := [] } w') : wpOp P ops Q i (fun a' w' => S w' ∧ wpAnyH P md ops Q S fuel (listed.setIfInBounds i true) a' w') { tmps := t, defers := [] } w := by
  unfold wpOp
  rw [hi]
  dsimp only
  rw [if_pos hw]
  refine .inl ?_
  unfold Oper.wp
  rw [hrun, Oper.upon_value]
  rw [show (Act.put { tmps := t, defers := [] } oi.dst v) = { tmps := t, defers := [] } from by simp [Act.put, hd]]
  exact ⟨hS, h⟩
end
section
variable {F : Nat → Prop} {w : World} {g : Nat} {D : Gd}
set_option maxRecDepth 100000 in
set_option maxHeartbeats 8000000 in
theorem finish_any (h : GrAt F w g D) (ok : D.abs.Ok) {i : Int} {c : Cx} (hi : D.ch i = some c) (hab : ∀ y ∈ c.ab, y ≠ i ∧ (D.ch y).isSome = true) (hbig : c.ab.length ≤ 1000000000) :
    Calls Try.prog 42 #[ptV g, ptV c.cb] w fun e w' => e = .returned (.tuple #[]) ∧ ∃ D', GrAt (Grown F w) w' g D' ∧ D'.abs = D.abs.finish i ∧ (∀ y, y ≠ i → (D'.ch y).map (·.cb) = (D.ch y).map (·.cb)) ∧ Only F w w' := by
  have hai : D.abs.ch i = some c.dat := by show (D.ch i).map Cx.dat = _; rw [hi]; rfl
  obtain ⟨hir, hwb0, hbs⟩ := ok.chs i c.dat hai
  have hwb : (Lit.int .i64 c.buf).wf = true := hwb0
  have hwi : (Lit.int .i64 i).wf = true := wf_small hir ok.big
  obtain ⟨x, hx⟩ : ∃ x, D.bf c.buf = some x := by
    have : ((D.bf c.buf).map Bx.dat).isSome = true := hbs
    cases hb : D.bf c.buf with
    | none => rw [hb] at this; cases this
    | some x => exact ⟨x, rfl⟩
  obtain ⟨lmb, hlm⟩ : ∃ l, D.lm = some l := by
    have hm : MapAt w D.lm D.nl (leftF D.ch) := h.cont .left
    cases hl : D.lm with
    | none =>
      rw [hl] at hm
      have := hm.2 (.int .i64 i)
      simp [leftF, hi] at this
    | some l => exact ⟨l, rfl⟩
  obtain ⟨bmb, hbm⟩ : ∃ l, D.bm = some l := by
    have hm : MapAt w D.bm D.nb (bufF D.bf) := h.cont .bufs
    cases hl : D.bm with
    | none =>
      rw [hl] at hm
      have := hm.2 (.int .i64 c.buf)
      simp [bufF, hx] at this
    | some l => exact ⟨l, rfl⟩
  -- the two boxes
  obtain ⟨w0, hw0⟩ : ∃ w0, w0 = (w.alloc (.cells #[ptV g] 26)).alloc (.cells #[ptV c.cb] 56) := ⟨_, rfl⟩
  have hB0 : Below w.heap.size w w0 := by rw [hw0]; exact ((Below.refl _ w).alloc (Nat.le_refl _) _).alloc (by simp) _
  have hs0 : w0.heap.size = w.heap.size + 2 := by rw [hw0]; simp
  have hx0 : w0.heap[w.heap.size]? = some (.cells #[ptV g] 26 (0, 0)) := by
    rw [hw0, Below.heap_alloc _ _ _ (by simp)]
    exact blk_new w _
  have hx1 : w0.heap[w.heap.size + 1]? = some (.cells #[ptV c.cb] 56 (0, 0)) := by
    rw [hw0]
    have := blk_new (w.alloc (.cells #[ptV g] 26)) (.cells #[ptV c.cb] 56)
    rwa [World.size_alloc] at this
  have h0 : GrAt F w0 g D := h.grow hB0
  -- the change goes out of the map
  obtain ⟨o1, hdel, hm1⟩ : ∃ o, (Builtin.delete_ #[57, 3] 0 #[.map (some lmb), .int .i64 i]).run Try.prog w0.drew = .ok (.tuple #[]) (setBlock w0.drew lmb o) ∧ MAt (setBlock w0.drew lmb o) 3 lmb (D.nl - 1) (leftF (updC D.ch i none)) := by
    have hm : MapAt w0.drew D.lm D.nl (leftF D.ch) := h0.drew.cont .left
    rw [hlm] at hm
    obtain ⟨o, hr, hm2⟩ := MAt.del hm keyed3 Try.underlying57 (key_int hwi) 0
    refine ⟨o, hr, ?_⟩
    have e1 : (leftF D.ch (.int .i64 i)).isSome = true := by simp [leftF, hi]
    rw [if_pos e1] at hm2
    exact hm2.say (fun _ l _ => (left_upd D.ch i none l).symm)
  obtain ⟨w1, hw1⟩ : ∃ w1, w1 = setBlock w0.drew lmb o1 := ⟨_, rfl⟩
  rw [← hw1] at hdel hm1
  have hO1 : Only (fun k => k = lmb) w0 w1 := by rw [hw1]; exact Only.setBlock (S := fun k => k = lmb) ((Only.refl _ w0).drew) (.inl rfl) o1
  have h1 : GrAt (OwnC g D c) w1 g { D with ch := updC D.ch i none, nl := D.nl - 1 } := h0.cutOff hi (h0.chDel hlm hO1 hm1)
  have hlmF : Own g D .left lmb := hlm
  have hOwnLt : ∀ k, OwnA g D k → k < w.heap.size := fun k hk => by obtain ⟨n, hn⟩ := hk; exact h.lt hn
  have hcl : ∀ k, (k = c.cb ∨ c.om = some k ∨ c.av.ownBlock = some k) → k < w.heap.size ∧ k ≠ lmb := by
    rintro k (rfl | hk | hk)
    · exact ⟨h.lt (n := .ch i) ⟨c, hi, rfl⟩, fun e => by have := h.sep (.ch i) .left c.cb ⟨c, hi, rfl⟩ (by rw [e]; exact hlm); cases this⟩
    · exact ⟨h.lt (n := .on i) ⟨c, hi, hk⟩, fun e => by have := h.sep (.on i) .left k ⟨c, hi, hk⟩ (by rw [e]; exact hlm); cases this⟩
    · exact ⟨h.lt (n := .ab i) ⟨c, hi, hk⟩, fun e => by have := h.sep (.ab i) .left k ⟨c, hi, hk⟩ (by rw [e]; exact hlm); cases this⟩
  have hcb0 : w0.heap[c.cb]? = some (chO i c) := h0.cont (.ch i) c hi
  have hav0 : w0.ownsRow 0 3 1 c.av c.ab.length (Iy c.ab) := h0.cont (.ab i) c hi
  have hcb1 : w1.heap[c.cb]? = some (chO i c) := (hO1.block c.cb (lt_of_block hcb0) (hcl c.cb (.inl rfl)).2).trans hcb0
  have hav1 : w1.ownsRow 0 3 1 c.av c.ab.length (Iy c.ab) := row_same hav0 (fun k hk => hO1.block k (by have := (hcl k (.inr (.inr hk))).1; omega) (hcl k (.inr (.inr hk))).2)
  have hlmlt : lmb < w.heap.size := h.lt hlmF
  have hy0 : w1.heap[w.heap.size]? = some (.cells #[ptV g] 26 (0, 0)) := (hO1.block _ (by omega) (by omega)).trans hx0
  have hy1 : w1.heap[w.heap.size + 1]? = some (.cells #[ptV c.cb] 56 (0, 0)) := (hO1.block _ (by omega) (by omega)).trans hx1
  -- facts for the walk
  obtain ⟨_, g1, g2, _⟩ := h0.cellsG
  obtain ⟨c0, c1, _, _, _⟩ := h0.cellsC hi
  rw [hlm] at g1
  have e0 : w0.cell? ⟨w.heap.size, 0, none⟩ = some (ptV g) := by rw [blk_cell hx0]; rfl
  have e1 : w0.cell? ⟨w.heap.size + 1, 0, none⟩ = some (ptV c.cb) := by rw [blk_cell hx1]; rfl
  have e2 : w1.cell? ⟨w.heap.size, 0, none⟩ = some (ptV g) := by rw [blk_cell hy0]; rfl
  have e3 : w1.cell? ⟨w.heap.size + 1, 0, none⟩ = some (ptV c.cb) := by rw [blk_cell hy1]; rfl
  obtain ⟨_, gl3, g3, _⟩ := h1.cellsG
  have HGL : Hid (w1.cell? ⟨g, 1, none⟩ = some (.map (some lmb))) := Hid.mk (by rw [gl3]; exact congrArg (fun m => some (Value.map m)) hlm)
  clear gl3
  have c3 : w1.cell? ⟨c.cb, 1, none⟩ = some (.int .i64 c.buf) := by rw [blk_cell hcb1]; rfl
  have c4 : w1.cell? ⟨c.cb, 0, none⟩ = some (.int .i64 i) := by rw [blk_cell hcb1]; rfl
  have q1 := h1.drew.lookB hwb
  dsimp only at q1 g3
  rw [hx] at q1
  simp only [Option.map_some, optV] at q1
  -- what is left of the change in its buffer
  obtain ⟨D2, hD2⟩ : ∃ D2 : Gd, D2 = { D with ch := updC D.ch i none, nl := D.nl - 1, bf := updC D.bf c.buf (some ⟨delS i x.nx, x.bl, x.bb, x.nm, x.km⟩) } := ⟨_, rfl⟩
  have HREM : Hid (Calls Try.prog 56 #[.pointer (some ⟨x.bb, 0, none⟩), .int .i64 i] w1.drew.drew fun e W' => ∃ r, e = .returned r ∧ GrAt (Grown (OwnC g D c) w1.drew.drew) W' g D2 ∧ Only (OwnC g D c) w1.drew.drew W' ∧ Only (fun k => x.nm = some k) w1.drew.drew W') := Hid.mk (by rw [hD2]; exact h1.drew.drew.nxRem (b := c.buf) (x := x) hx i hwi)
  have hOC : ∀ k, OwnC g D c k → k < w.heap.size := fun k hk => hOwnLt k hk.1
  have HA3 : Hid (∀ w3, GrAt (Grown (OwnC g D c) w1.drew.drew) w3 g D2 → Only (OwnC g D c) w1.drew.drew w3 → (w3.cell? ⟨w.heap.size + 1, 0, none⟩ = some (ptV c.cb) ∧ w3.cell? ⟨c.cb, 0, none⟩ = some (.int .i64 i)) ∧ Hid (GrAt (OwnC g D c) w3 g D2 ∧ w3.heap[w.heap.size]? = some (.cells #[ptV g] 26 (0, 0)) ∧ w3.heap[w.heap.size + 1]? = some (.cells #[ptV c.cb] 56 (0, 0)) ∧ w3.heap[c.cb]? = some (chO i c) ∧ w3.ownsRow 0 3 1 c.av c.ab.length (Iy c.ab) ∧ w.heap.size + 2 ≤ w3.heap.size ∧ Only F w w3)) := Hid.mk (fun w3 hg3 ho3 => by
    have hs1 := hO1.size
    have hz : ∀ k, k < w0.heap.size → ¬ OwnC g D c k → w3.heap[k]? = w1.heap[k]? := fun k hk hn => ho3.block k (by show k < w1.heap.size; omega) hn
    have y0 : w3.heap[w.heap.size]? = some (.cells #[ptV g] 26 (0, 0)) := (hz _ (by omega) (fun hk => by have := hOC _ hk; omega)).trans hy0
    have y1 : w3.heap[w.heap.size + 1]? = some (.cells #[ptV c.cb] 56 (0, 0)) := (hz _ (by omega) (fun hk => by have := hOC _ hk; omega)).trans hy1
    have yc : w3.heap[c.cb]? = some (chO i c) := (hz _ (lt_of_block hcb0) (fun hk => hk.2.1 rfl)).trans hcb1
    have ya : w3.ownsRow 0 3 1 c.av c.ab.length (Iy c.ab) := row_same hav1 (fun k hk => hz k (by have := (hcl k (.inr (.inr hk))).1; omega) (fun h' => h'.2.2.2 hk))
    refine ⟨⟨by rw [blk_cell y1]; rfl, by rw [blk_cell yc]; rfl⟩, Hid.mk ⟨?_, y0, y1, yc, ya, ?_, ?_⟩⟩
    · rw [hD2] at hg3 ⊢
      exact GrAt.bfSame (D := { D with ch := updC D.ch i none, nl := D.nl - 1 }) hx (fun n k hk => (h1.own n k hk).1) hg3
    · have := ho3.size
      have h2 : w1.heap.size = w1.drew.drew.heap.size := rfl
      omega
    · refine ((Only.of_new F hB0).trans (T := fun k => k = lmb) hO1 (fun k hk => .inl (by subst hk; exact (h.own .left _ hlmF).1))).drew.drew.trans ho3 (fun k hk => .inl (h.inF hk.1)))
  have HS3 : Hid (w1.drew.drew.cell? ⟨w.heap.size + 1, 0, none⟩ = some (ptV c.cb) ∧ w1.drew.drew.cell? ⟨c.cb, 0, none⟩ = some (.int .i64 i)) := Hid.mk ⟨e3, c4⟩
  have HAV : Hid (∃ ao n c', c.av = .slice ao n c') := Hid.mk (by
    obtain ⟨ao, c', hv, _⟩ := owns_lat hav0
    exact ⟨ao, _, c', hv⟩)
  have HOK2 : Hid (D2.abs.Ok ∧ D2.abs = D.abs.cut i c.buf) := by
    have e : D2.abs = D.abs.cut i c.buf := by
      rw [hD2]
      unfold Ga.cut
      rw [show D.abs.bf c.buf = some x.dat by show (D.bf c.buf).map Bx.dat = _; rw [hx]; rfl]
      simp only
      unfold Gd.abs
      simp only [Ga.mk.injEq, true_and, and_true]
      exact ⟨updC_map D.ch i none Cx.dat, updC_map D.bf c.buf _ Bx.dat⟩
    exact Hid.mk ⟨by rw [e]; exact ok.cut i c.buf, e⟩
  have HX2 : Hid ((D2.bf c.buf).map (·.bb) = some x.bb) := Hid.mk (by rw [hD2]; show (updC D.bf c.buf _ c.buf).map _ = _; rw [updC_same]; rfl)
  have HCH : Hid (∀ y, y ≠ i → D2.ch y = D.ch y) := Hid.mk (fun y hy => by rw [hD2]; exact updC_other D.ch none hy)
  have HAI : Hid (D.abs.ch i = some c.dat) := Hid.mk hai
  have HH := Hid.mk h
  have HABI := Hid.mk hab
  have HBIG := Hid.mk hbig
  have HOC := Hid.mk hOC
  have HOKD := Hid.mk ok
  have HCL : Hid (∀ k, (k = c.cb ∨ c.av.ownBlock = some k) → k < w.heap.size) := Hid.mk (fun k hk => (hcl k (hk.elim .inl (fun h => .inr (.inr h)))).1)
  rw [hbm] at g2 g3 q1
  have HDEL := Hid.mk hdel
  have g4 : w1.cell? ⟨g, 1, none⟩ = some (.map (some lmb)) := by have := HGL.out; exact this
  have HS1 : Hid (w0.drew.cell? ⟨w.heap.size, 0, none⟩ = some (ptV g) ∧ w0.drew.cell? ⟨w.heap.size + 1, 0, none⟩ = some (ptV c.cb) ∧ w0.drew.cell? ⟨g, 1, none⟩ = some (.map (some lmb)) ∧ w0.drew.cell? ⟨c.cb, 0, none⟩ = some (.int .i64 i)) := Hid.mk ⟨e0, e1, g1, c0⟩
  have HS1b : Hid (w1.cell? ⟨w.heap.size, 0, none⟩ = some (ptV g) ∧ w1.cell? ⟨w.heap.size + 1, 0, none⟩ = some (ptV c.cb) ∧ w1.cell? ⟨g, 1, none⟩ = some (.map (some lmb)) ∧ w1.cell? ⟨c.cb, 0, none⟩ = some (.int .i64 i)) := Hid.mk ⟨e2, e3, g4, c4⟩
  have HS2 : Hid (w1.drew.cell? ⟨w.heap.size, 0, none⟩ = some (ptV g) ∧ w1.drew.cell? ⟨w.heap.size + 1, 0, none⟩ = some (ptV c.cb) ∧ w1.drew.cell? ⟨g, 2, none⟩ = some (.map (some bmb)) ∧ w1.drew.cell? ⟨c.cb, 1, none⟩ = some (.int .i64 c.buf) ∧ (Instr.lookup 58 (.map (some bmb)) (.int .i64 c.buf) false).run Try.prog w1.drew = .ok (ptV x.bb) w1.drew) := Hid.mk ⟨e2, e3, g3, c3, q1⟩
  clear hdel g4 g1 g2 g3 q1 c0 c1 c3 c4 e0 e1 e2 e3
  clear hbig hm1 hO1 h1 h0 hav0 hav1 hcb0 hcb1 hy0 hy1 hx0 hx1 hB0 hcl hOwnLt hlmF hOC hD2 hw1 hai hab hbs ok h
  refine (callsIn_wide (n := 6)).1 ?_
  refine callsIn_of_wp_marks Try.func42 rfl trivial ?_ rfl
  simp only [Try.ntmps42, List.size_toArray, List.length_cons, List.length_nil, Nat.reduceAdd, Nat.reduceSub, Array.replicate_succ, Array.replicate_zero, List.push_toArray, List.append_toArray, List.nil_append, List.cons_append]
  gi_wp2
  rw [← hw0]
  clear hw0
  refine wide_region_held (S := fun W' => W'.cell? ⟨w.heap.size, 0, none⟩ = some (ptV g) ∧ W'.cell? ⟨w.heap.size + 1, 0, none⟩ = some (ptV c.cb) ∧ W'.cell? ⟨g, 1, none⟩ = some (.map (some lmb)) ∧ W'.cell? ⟨c.cb, 0, none⟩ = some (.int .i64 i)) (by kernel_rfl) (by kernel_rfl) HS1.out (fun hH => ?_)
  change wpAnyH Try.prog Region.Mode.any _ _ _ 9 _ _ _
  refine takeH 0 6 (.pointer (some ⟨g, 0, none⟩)) rfl (by kernel_rfl) (by kernel_rfl) (by kernel_rfl) (by kernel_rfl) (fun _ _ _ h => h) (by kernel_rfl) (fun w hw => by (try dsimp only at hw); go_simp) hH ?_
  simp only [List.setIfInBounds_toArray, List.set_cons_zero, List.set_cons_succ]
  refine takeH 1 7 (.pointer (some ⟨g, 0, none⟩)) rfl (by kernel_rfl) (by kernel_rfl) (by kernel_rfl) (by kernel_rfl) (fun _ _ _ h => h) (by kernel_rfl) (fun w hw => by (try dsimp only at hw); go_simp) hH ?_
  simp only [List.setIfInBounds_toArray, List.set_cons_zero, List.set_cons_succ]
  refine takeH 2 8 (.pointer (some ⟨g, 1, none⟩)) rfl (by kernel_rfl) (by kernel_rfl) (by kernel_rfl) (by kernel_rfl) (fun _ _ _ h => h) (by kernel_rfl) (fun w hw => by (try dsimp only at hw); go_simp) hH ?_
  simp only [List.setIfInBounds_toArray, List.set_cons_zero, List.set_cons_succ]
  refine takeH 3 9 (.map (some lmb)) rfl (by kernel_rfl) (by kernel_rfl) (by kernel_rfl) (by kernel_rfl) (fun _ _ _ h => h) (by kernel_rfl) (fun w hw => by (try dsimp only at hw); go_simp) hH ?_
  simp only [List.setIfInBounds_toArray, List.set_cons_zero, List.set_cons_succ]
  refine takeH 4 10 (.pointer (some ⟨c.cb, 0, none⟩)) rfl (by kernel_rfl) (by kernel_rfl) (by kernel_rfl) (by kernel_rfl) (fun _ _ _ h => h) (by kernel_rfl) (fun w hw => by (try dsimp only at hw); go_simp) hH ?_
  simp only [List.setIfInBounds_toArray, List.set_cons_zero, List.set_cons_succ]
  refine takeH 5 11 (.pointer (some ⟨c.cb, 0, none⟩)) rfl (by kernel_rfl) (by kernel_rfl) (by kernel_rfl) (by kernel_rfl) (fun _ _ _ h => h) (by kernel_rfl) (fun w hw => by (try dsimp only at hw); go_simp) hH ?_
  simp only [List.setIfInBounds_toArray, List.set_cons_zero, List.set_cons_succ]
  refine takeH 6 12 (.pointer (some ⟨c.cb, 0, none⟩)) rfl (by kernel_rfl) (by kernel_rfl) (by kernel_rfl) (by kernel_rfl) (fun _ _ _ h => h) (by kernel_rfl) (fun w hw => by (try dsimp only at hw); go_simp) hH ?_
  simp only [List.setIfInBounds_toArray, List.set_cons_zero, List.set_cons_succ]
  refine takeH 7 13 (.int .i64 i) rfl (by kernel_rfl) (by kernel_rfl) (by kernel_rfl) (by kernel_rfl) (fun _ _ _ h => h) (by kernel_rfl) (fun w hw => by (try dsimp only at hw); go_simp) hH ?_
  simp only [List.setIfInBounds_toArray, List.set_cons_zero, List.set_cons_succ]
  refine stepH_one 8 (by kernel_rfl) (opH_drop 8 w1 (.tuple #[]) rfl (by kernel_rfl) (by kernel_rfl) (exec_del (m := .tmp 9) (x := .tmp 13) rfl (by kernel_rfl) (by kernel_rfl) HDEL.out) HS1b.out ?_)
  refine wpAnyH_done (by kernel_rfl) ?_ _
  dsimp only [Norm]
  gi_wp2
  refine wide_region_held (S := fun W' => W'.cell? ⟨w.heap.size, 0, none⟩ = some (ptV g) ∧ W'.cell? ⟨w.heap.size + 1, 0, none⟩ = some (ptV c.cb) ∧ W'.cell? ⟨g, 2, none⟩ = some (.map (some bmb)) ∧ W'.cell? ⟨c.cb, 1, none⟩ = some (.int .i64 c.buf) ∧ (Instr.lookup 58 (.map (some bmb)) (.int .i64 c.buf) false).run Try.prog W' = .ok (ptV x.bb) W') (by kernel_rfl) (by kernel_rfl) HS2.out (fun hH => ?_)
  change wpAnyH Try.prog Region.Mode.any _ _ _ 10 _ _ _
  refine takeH 0 14 (.pointer (some ⟨g, 0, none⟩)) rfl (by kernel_rfl) (by kernel_rfl) (by kernel_rfl) (by kernel_rfl) (fun _ _ _ h => h) (by kernel_rfl) (fun w hw => by (try dsimp only at hw); go_simp) hH ?_
  simp only [List.setIfInBounds_toArray, List.set_cons_zero, List.set_cons_succ]
  refine takeH 1 15 (.pointer (some ⟨g, 0, none⟩)) rfl (by kernel_rfl) (by kernel_rfl) (by kernel_rfl) (by kernel_rfl) (fun _ _ _ h => h) (by kernel_rfl) (fun w hw => by (try dsimp only at hw); go_simp) hH ?_
  simp only [List.setIfInBounds_toArray, List.set_cons_zero, List.set_cons_succ]
  refine takeH 2 16 (.pointer (some ⟨g, 2, none⟩)) rfl (by kernel_rfl) (by kernel_rfl) (by kernel_rfl) (by kernel_rfl) (fun _ _ _ h => h) (by kernel_rfl) (fun w hw => by (try dsimp only at hw); go_simp) hH ?_
  simp only [List.setIfInBounds_toArray, List.set_cons_zero, List.set_cons_succ]
  refine takeH 3 17 (.map (some bmb)) rfl (by kernel_rfl) (by kernel_rfl) (by kernel_rfl) (by kernel_rfl) (fun _ _ _ h => h) (by kernel_rfl) (fun w hw => by (try dsimp only at hw); go_simp) hH ?_
  simp only [List.setIfInBounds_toArray, List.set_cons_zero, List.set_cons_succ]
  refine takeH 4 18 (.pointer (some ⟨c.cb, 0, none⟩)) rfl (by kernel_rfl) (by kernel_rfl) (by kernel_rfl) (by kernel_rfl) (fun _ _ _ h => h) (by kernel_rfl) (fun w hw => by (try dsimp only at hw); go_simp) hH ?_
  simp only [List.setIfInBounds_toArray, List.set_cons_zero, List.set_cons_succ]
  refine takeH 5 19 (.pointer (some ⟨c.cb, 0, none⟩)) rfl (by kernel_rfl) (by kernel_rfl) (by kernel_rfl) (by kernel_rfl) (fun _ _ _ h => h) (by kernel_rfl) (fun w hw => by (try dsimp only at hw); go_simp) hH ?_
  simp only [List.setIfInBounds_toArray, List.set_cons_zero, List.set_cons_succ]
  refine takeH 6 20 (.pointer (some ⟨c.cb, 1, none⟩)) rfl (by kernel_rfl) (by kernel_rfl) (by kernel_rfl) (by kernel_rfl) (fun _ _ _ h => h) (by kernel_rfl) (fun w hw => by (try dsimp only at hw); go_simp) hH ?_
  simp only [List.setIfInBounds_toArray, List.set_cons_zero, List.set_cons_succ]
  refine takeH 7 21 (.int .i64 c.buf) rfl (by kernel_rfl) (by kernel_rfl) (by kernel_rfl) (by kernel_rfl) (fun _ _ _ h => h) (by kernel_rfl) (fun w hw => by (try dsimp only at hw); go_simp) hH ?_
  simp only [List.setIfInBounds_toArray, List.set_cons_zero, List.set_cons_succ]
  refine takeH 8 22 (.pointer (some ⟨x.bb, 0, none⟩)) rfl (by kernel_rfl) (by kernel_rfl) (by kernel_rfl) (by kernel_rfl) (fun _ _ _ h => h) (by kernel_rfl) (fun w hw => by (try dsimp only at hw); go_simp) hH ?_
  simp only [List.setIfInBounds_toArray, List.set_cons_zero, List.set_cons_succ]
  refine takeH 9 4 (.pointer (some ⟨x.bb, 0, none⟩)) rfl (by kernel_rfl) (by kernel_rfl) (by kernel_rfl) (by kernel_rfl) (fun _ _ _ h => h) (by kernel_rfl) (fun w hw => by kernel_rfl) hH ?_
  simp only [List.setIfInBounds_toArray, List.set_cons_zero, List.set_cons_succ]
  refine wpAnyH_done (by kernel_rfl) ?_ _
  dsimp only [Norm]
  gi_wp2
  refine wide_region_held (S := fun W' => W'.cell? ⟨w.heap.size + 1, 0, none⟩ = some (ptV c.cb) ∧ W'.cell? ⟨c.cb, 0, none⟩ = some (.int .i64 i)) (by kernel_rfl) (by kernel_rfl) HS3.out (fun hH => ?_)
  change wpAnyH Try.prog Region.Mode.any _ _ _ 8 _ _ _
  refine takeH 0 23 (.pointer (some ⟨x.bb, 0, none⟩)) rfl (by kernel_rfl) (by kernel_rfl) (by kernel_rfl) (by kernel_rfl) (fun _ _ _ h => h) (by kernel_rfl) (fun w hw => by kernel_rfl) hH ?_
  simp only [List.setIfInBounds_toArray, List.set_cons_zero, List.set_cons_succ]
  refine takeH 1 24 (.pointer (some ⟨x.bb, 0, none⟩)) rfl (by kernel_rfl) (by kernel_rfl) (by kernel_rfl) (by kernel_rfl) (fun _ _ _ h => h) (by kernel_rfl) (fun w hw => by (try dsimp only at hw); go_simp) hH ?_
  simp only [List.setIfInBounds_toArray, List.set_cons_zero, List.set_cons_succ]
  refine takeH 2 25 (.pointer (some ⟨x.bb, 0, none⟩)) rfl (by kernel_rfl) (by kernel_rfl) (by kernel_rfl) (by kernel_rfl) (fun _ _ _ h => h) (by kernel_rfl) (fun w hw => by (try dsimp only at hw); go_simp) hH ?_
  simp only [List.setIfInBounds_toArray, List.set_cons_zero, List.set_cons_succ]
  refine takeH 3 26 (.pointer (some ⟨c.cb, 0, none⟩)) rfl (by kernel_rfl) (by kernel_rfl) (by kernel_rfl) (by kernel_rfl) (fun _ _ _ h => h) (by kernel_rfl) (fun w hw => by (try dsimp only at hw); go_simp) hH ?_
  simp only [List.setIfInBounds_toArray, List.set_cons_zero, List.set_cons_succ]
  refine takeH 4 27 (.pointer (some ⟨c.cb, 0, none⟩)) rfl (by kernel_rfl) (by kernel_rfl) (by kernel_rfl) (by kernel_rfl) (fun _ _ _ h => h) (by kernel_rfl) (fun w hw => by (try dsimp only at hw); go_simp) hH ?_
  simp only [List.setIfInBounds_toArray, List.set_cons_zero, List.set_cons_succ]
  refine takeH 5 28 (.pointer (some ⟨c.cb, 0, none⟩)) rfl (by kernel_rfl) (by kernel_rfl) (by kernel_rfl) (by kernel_rfl) (fun _ _ _ h => h) (by kernel_rfl) (fun w hw => by (try dsimp only at hw); go_simp) hH ?_
  simp only [List.setIfInBounds_toArray, List.set_cons_zero, List.set_cons_succ]
  refine takeH 6 29 (.int .i64 i) rfl (by kernel_rfl) (by kernel_rfl) (by kernel_rfl) (by kernel_rfl) (fun _ _ _ h => h) (by kernel_rfl) (fun w hw => by (try dsimp only at hw); go_simp) hH ?_
  simp only [List.setIfInBounds_toArray, List.set_cons_zero, List.set_cons_succ]
  refine stepH_call 7 30 rfl (by kernel_rfl) (by kernel_rfl) (by kernel_rfl) 56 #[.tmp 25, .tmp 29] #[64, 3] (by kernel_rfl) (enters_of Try.func56 (by kernel_rfl) rfl) #[.pointer (some ⟨x.bb, 0, none⟩), .int .i64 i] (by kernel_rfl) HREM.out ?_
  rintro e w3 ⟨r3, rfl, hg3, ho3, _⟩
  obtain ⟨hH3, HF3⟩ := HA3.out w3 hg3 ho3
  clear hg3 ho3
  refine ⟨_, rfl, hH3, ?_⟩
  simp only [List.setIfInBounds_toArray, List.set_cons_zero, List.set_cons_succ]
  refine wpAnyH_done (by kernel_rfl) ?_ _
  dsimp only [Norm]
  obtain ⟨hgr3, hb3, hb4, hcc3, hav3, hsz3, hon3⟩ := HF3.out
  have hS4 : w3.drew.cell? ⟨w.heap.size, 0, none⟩ = some (ptV g) ∧ w3.drew.cell? ⟨w.heap.size + 1, 0, none⟩ = some (ptV c.cb) ∧ w3.drew.cell? ⟨c.cb, 3, none⟩ = some c.av := ⟨by rw [show w3.drew.cell? ⟨w.heap.size, 0, none⟩ = w3.cell? ⟨w.heap.size, 0, none⟩ from rfl, blk_cell hb3]; rfl, by rw [show w3.drew.cell? ⟨w.heap.size + 1, 0, none⟩ = w3.cell? ⟨w.heap.size + 1, 0, none⟩ from rfl, blk_cell hb4]; rfl, by rw [show w3.drew.cell? ⟨c.cb, 3, none⟩ = w3.cell? ⟨c.cb, 3, none⟩ from rfl, blk_cell hcc3]; rfl⟩
  have HS4 := Hid.mk hS4
  have HA4 : Hid (∀ w5, w5 = (w3.drew.alloc (.cells #[ptV g] 26)).alloc (.cells #[c.av] 23) → w5.cell? ⟨w.heap.size, 0, none⟩ = some (ptV g) ∧ w5.cell? ⟨w.heap.size + 1, 0, none⟩ = some (ptV c.cb) ∧ w5.cell? ⟨c.cb, 3, none⟩ = some c.av) := Hid.mk (fun w5 e => by
    have hB5 : Below w3.drew.heap.size w3.drew w5 := by rw [e]; exact ((Below.refl _ _).alloc (Nat.le_refl _) _).alloc (by simp) _
    have hcl := lt_of_block hcc3
    exact ⟨(World.cell?_of_block (w := w3.drew) (hB5.block _ (by show w.heap.size < w3.heap.size; omega))).trans hS4.1, (World.cell?_of_block (w := w3.drew) (hB5.block _ (by show w.heap.size + 1 < w3.heap.size; omega))).trans hS4.2.1, (World.cell?_of_block (w := w3.drew) (hB5.block _ hcl)).trans hS4.2.2⟩)
  clear hS4 hgr3 hb3 hb4 hcc3 hav3 hsz3 hon3 HREM HA3 HS3
  gi_wp2
  refine wide_region_held (S := fun W' => W'.cell? ⟨w.heap.size, 0, none⟩ = some (ptV g) ∧ W'.cell? ⟨w.heap.size + 1, 0, none⟩ = some (ptV c.cb) ∧ W'.cell? ⟨c.cb, 3, none⟩ = some c.av) (by kernel_rfl) (by kernel_rfl) HS4.out (fun hH => ?_)
  change wpAnyH Try.prog Region.Mode.any _ _ _ 6 _ _ _
  refine takeH 0 31 (.pointer (some ⟨g, 0, none⟩)) rfl (by kernel_rfl) (by kernel_rfl) (by kernel_rfl) (by kernel_rfl) (fun _ _ _ h => h) (by kernel_rfl) (fun w hw => by (try dsimp only at hw); go_simp) hH ?_
  simp only [List.setIfInBounds_toArray, List.set_cons_zero, List.set_cons_succ]
  refine takeH 1 32 (.pointer (some ⟨c.cb, 0, none⟩)) rfl (by kernel_rfl) (by kernel_rfl) (by kernel_rfl) (by kernel_rfl) (fun _ _ _ h => h) (by kernel_rfl) (fun w hw => by (try dsimp only at hw); go_simp) hH ?_
  simp only [List.setIfInBounds_toArray, List.set_cons_zero, List.set_cons_succ]
  refine takeH 2 33 (.pointer (some ⟨c.cb, 0, none⟩)) rfl (by kernel_rfl) (by kernel_rfl) (by kernel_rfl) (by kernel_rfl) (fun _ _ _ h => h) (by kernel_rfl) (fun w hw => by (try dsimp only at hw); go_simp) hH ?_
  simp only [List.setIfInBounds_toArray, List.set_cons_zero, List.set_cons_succ]
  refine takeH 3 34 (.pointer (some ⟨c.cb, 3, none⟩)) rfl (by kernel_rfl) (by kernel_rfl) (by kernel_rfl) (by kernel_rfl) (fun _ _ _ h => h) (by kernel_rfl) (fun w hw => by (try dsimp only at hw); go_simp) hH ?_
  simp only [List.setIfInBounds_toArray, List.set_cons_zero, List.set_cons_succ]
  refine takeH 4 35 (c.av) rfl (by kernel_rfl) (by kernel_rfl) (by kernel_rfl) (by kernel_rfl) (fun _ _ _ h => h) (by kernel_rfl) (fun w hw => by (try dsimp only at hw); go_simp) hH ?_
  simp only [List.setIfInBounds_toArray, List.set_cons_zero, List.set_cons_succ]
  refine stepH_call 5 36 rfl (by kernel_rfl) (by kernel_rfl) (by kernel_rfl) 41 #[.tmp 31, .tmp 35] #[26, 23] (by kernel_rfl) (enters_of Try.func41 (by kernel_rfl) rfl) #[ptV g, c.av] (by kernel_rfl) (open_any _ g c.av HAV.out) ?_
  rintro e w5 ⟨rfl, hw5⟩
  have hH5 := HA4.out w5 hw5
  have HW5 := Hid.mk hw5
  clear hw5
  refine ⟨_, rfl, hH5, ?_⟩
  simp only [List.setIfInBounds_toArray, List.set_cons_zero, List.set_cons_succ]
  refine wpAnyH_done (by kernel_rfl) ?_ _
  dsimp only [Norm]
  gi_wp2
  obtain ⟨q, hq⟩ : ∃ q, q = w3.drew.heap.size := ⟨_, rfl⟩
  rw [← hq]
  have hs5 : w5.heap.size = q + 2 := by rw [HW5.out, hq]; simp
  have hI0 : FnI F w w5 q g D D2 i c x.bb D2.abs w5 := by
    obtain ⟨hgr3, hb3, hb4, hcc3, hav3, hsz3, hon3⟩ := HF3.out
    have hB5 : Below w3.drew.heap.size w3.drew w5 := by rw [HW5.out]; exact ((Below.refl _ _).alloc (Nat.le_refl _) _).alloc (by simp) _
    have hq3 : q = w3.heap.size := hq
    have hk : ∀ k, k < w3.heap.size → w5.heap[k]? = w3.heap[k]? := fun k hk => hB5.block k hk
    refine ⟨(hk _ (by omega)).trans hb3, (hk _ (by omega)).trans hb4, ?_, ?_, (hk _ (lt_of_block hcc3)).trans hcc3, row_same hav3 (fun k hk' => hk k (by have := HCL.out k (.inr hk'); omega)), Nat.le_refl _, ?_, ?_⟩
    · rw [HW5.out, Below.heap_alloc _ _ _ (by rw [hq]; simp), hq]
      exact blk_new w3.drew _
    · rw [HW5.out]
      have := blk_new (w3.drew.alloc (.cells #[ptV g] 26)) (.cells #[c.av] 23)
      rw [World.size_alloc] at this
      rw [hq]
      exact this
    · exact hon3.drew.trans (T := fun _ => False) (Only.of_new _ hB5) (fun _ h => h.elim)
    · refine ⟨D2, (hgr3.drew.grow hB5).mono (fun k _ hk => .inl hk), rfl, HOK2.out.1, fun _ => rfl, HX2.out⟩
  have hSZ : q + 1 < w5.heap.size ∧ w.heap.size + 1 < w5.heap.size := by
    have := HF3.out.2.2.2.2.2.1
    have hq3 : q = w3.heap.size := hq
    omega
  have HQ := Hid.mk hq
  have HS5 := Hid.mk hs5
  clear hq hs5
  obtain ⟨P, hP⟩ : ∃ P : Nat → Option Nat, P = fun j => (D2.ch (c.ab.getD j 0)).map (·.cb) := ⟨_, rfl⟩
  have hmem : ∀ j, j < c.ab.length → c.ab.getD j 0 ∈ c.ab := fun j hj => by rw [List.getD_eq_getElem?_getD, List.getElem?_eq_getElem hj]; exact List.getElem_mem hj
  have hall : ∀ j, j < c.ab.length → ∃ b, P j = some b := fun j hj => by
    obtain ⟨h1, h2⟩ := HABI.out _ (hmem j hj)
    rw [hP]
    show ∃ b, (D2.ch (c.ab.getD j 0)).map (·.cb) = some b
    rw [HCH.out _ h1]
    cases hc : D.ch (c.ab.getD j 0) with
    | none => rw [hc] at h2; cases h2
    | some y => exact ⟨y.cb, rfl⟩
  obtain ⟨hlen, hat⟩ := all_open hall
  obtain ⟨pl, hpl⟩ : ∃ pl : Nat → Nat, pl = fun k => ((List.range c.ab.length).filterMap P).getD k 0 := ⟨_, rfl⟩
  have HLEN : Hid (c.ab.length ≤ 900000 ∨ True) := Hid.mk (.inr trivial)
  have hOther : ∀ Z A B (S : Nat → Prop), FnI F w w5 q g D D2 i c x.bb Z A → Only S A B → (∀ k, k < A.heap.size → S k → w5.heap.size ≤ k ∧ k < w5.heap.size + 2) → FnI F w w5 q g D D2 i c x.bb Z B := fun Z A B S hA hO hS => hA.others hO hS hSZ.1 hSZ.2 HCL.out HOC.out
  clear HLEN
  refine wpIn_range_stop (gf := 55) (lb := #[ptV (q + 1), ptV q]) rfl (enters_of Try.func55 (by kernel_rfl) rfl) c.ab.length (fun k => #[ptV (pl k)]) (fun _ => rfl)
    (fun k => FnI F w w5 q g D D2 i c x.bb ((c.ab.take k).foldl (Ga.unhang i) D2.abs)) (fun _ => False)
    (fun k A B row hA hg hr => hOther _ A B (fun k => row = some k) hA ⟨hg.os, hg.tape, hg.output, hg.size, fun j hj hs => hg.block j hj (fun e => hs e.symm)⟩ (fun j _ hj => by have := hr j hj; omega)) (fun A B row hA _ _ => hA) hI0 ?hit
    (fun k => { tmps := #[ptV g, ptV c.cb, ptV w.heap.size, ptV (w.heap.size + 1), ptV x.bb, ptV (pl k), ptV g, ptV g, .pointer (some ⟨g, 1, none⟩), .map (some lmb), ptV c.cb, ptV c.cb, .pointer (some ⟨c.cb, 0, none⟩), .int .i64 i, ptV g, ptV g, .pointer (some ⟨g, 2, none⟩), .map (some bmb), ptV c.cb, ptV c.cb, .pointer (some ⟨c.cb, 1, none⟩), .int .i64 c.buf, ptV x.bb, ptV x.bb, ptV x.bb, .pointer (some ⟨x.bb, 0, none⟩), ptV c.cb, ptV c.cb, .pointer (some ⟨c.cb, 0, none⟩), .int .i64 i, r3, ptV g, ptV c.cb, ptV c.cb, .pointer (some ⟨c.cb, 3, none⟩), c.av, openV q, ptV (pl k), undef, undef, undef, undef, undef, undef, undef, undef, undef, undef, undef, undef, undef, undef, undef, undef, undef, undef, undef, undef, undef, undef, undef, undef, undef, undef, undef, undef, undef, undef, undef, undef, undef, undef], defers := [] }) ?assign ?body ?done ?stop
  case hit =>
    intro l J Jx W hJI hg hY h0
    obtain ⟨ao, cc, hav, _⟩ := owns_lat hI0.av
    have hlenm : c.ab.length ≤ 1000000000 := HBIG.out
    have := open1_in 5 (by omega) l q g ao c.ab.length cc c.ab hlenm P J Jx W ?_ ?_ ?_ h0
    · rw [hlen] at this; exact this
    · rw [blk_cell ((hg.block (q + 1) hSZ.1 (by simp)).trans hI0.o1), ← hav]; rfl
    · intro k A hJ
      have hA := hJI k A hJ
      obtain ⟨Dk, hgk, _, _, hpk, _⟩ := hA.gr
      refine ⟨by rw [blk_cell hA.o0]; rfl, Dk.lm, hgk.cellsG.2.1, fun j hj _ => ?_⟩
      obtain ⟨ao', cc', hav', hl'⟩ := owns_lat hA.av
      rw [hav] at hav'
      cases hav'
      obtain ⟨a, ha, hca⟩ := hl'.at j hj
      refine ⟨a, ha, hca, ?_⟩
      have hw : (Lit.int .i64 (c.ab.getD j 0)).wf = true := by
        obtain ⟨h1, h2⟩ := HABI.out _ (hmem j hj)
        cases hc : D.ch (c.ab.getD j 0) with
        | none => rw [hc] at h2; cases h2
        | some y => exact wf_small (HOKD.out.chs _ y.dat (by show (D.ch _).map _ = _; rw [hc]; rfl)).1 HOKD.out.big
      rw [hgk.lookC hw, hpk, hP]
    · intro k A hJ hk
      rw [hlen] at hk
      have := hY k A hJ hk
      rw [hpl] at this
      exact this
  case assign =>
    intro l k W K hK
    generalize pl k = p at *
    gi_wp2
    exact hK
  case body =>
    rintro l k W hFn hk hW2
    obtain ⟨Dk, hgk, habs, hok, hpk, hxb⟩ := hFn.gr
    obtain ⟨y, hy⟩ : ∃ y, y = c.ab.getD k 0 := ⟨_, rfl⟩
    have hyi : y ≠ i := by rw [hy]; exact (HABI.out _ (hmem k hk)).1
    have hPk := (hat k hk).1
    rw [hP] at hPk
    have hPk2 : (D2.ch y).map (·.cb) = some (pl k) := by rw [hy, hpl]; simpa [hP] using hPk
    obtain ⟨cy, hcy, hcb⟩ : ∃ cy, Dk.ch y = some cy ∧ cy.cb = pl k := by
      have e := (hpk y).trans hPk2
      cases hc : Dk.ch y with
      | none => rw [hc] at e; cases e
      | some z => rw [hc] at e; exact ⟨z, rfl, Option.some.inj e⟩
    have htk : (c.ab.take (k + 1)).foldl (Ga.unhang i) D2.abs = Ga.unhang i Dk.abs y := by
      rw [habs, List.take_add_one, List.foldl_append, hy, List.getD_eq_getElem?_getD, List.getElem?_eq_getElem hk]
      rfl
    rw [← hcb]
    have hdat : Dk.abs.ch y = some cy.dat := by show (Dk.ch y).map _ = _; rw [hcy]; rfl
    obtain ⟨hyr, hwy, hbfy⟩ := hok.chs y cy.dat hdat
    have hwyi := wf_small hyr hok.big
    obtain ⟨xy, hxy⟩ : ∃ xy, Dk.bf cy.buf = some xy := by
      have h9 : ((Dk.bf cy.buf).map Bx.dat).isSome = true := hbfy
      cases hb : Dk.bf cy.buf with
      | none => rw [hb] at h9; cases h9
      | some z => exact ⟨z, rfl⟩
    have hnx : xy.nx.length < 1000000 := by
      have h8 := rise_len (hgk.cont (.nx cy.buf) xy hxy).1.1 (hok.nxs cy.buf xy.dat (by show (Dk.bf _).map _ = _; rw [hxy]; rfl)).1
      have := hok.big
      omega
    have hFF : ∀ k, OwnC g D c k → F k := fun k hk => HH.out.inF hk.1
    have hq0 : w.heap.size + 2 ≤ q := by have := HF3.out.2.2.2.2.2.1; have hq3 : q = w3.heap.size := HQ.out; omega
    obtain ⟨D6, hD6⟩ : ∃ D6 : Gd, D6 = { Dk with ch := updC Dk.ch y (some ⟨cy.buf, delS i cy.on, cy.ab, cy.cb, cy.om, cy.av⟩) } := ⟨_, rfl⟩
    have hc6 : D6.ch y = some ⟨cy.buf, delS i cy.on, cy.ab, cy.cb, cy.om, cy.av⟩ := by rw [hD6]; exact updC_same _ _ _
    have hx6 : D6.bf cy.buf = some xy := by rw [hD6]; exact hxy
    have habs6 : D6.abs = { Dk.abs with ch := updC Dk.abs.ch y (some ⟨cy.buf, delS i cy.on, cy.ab⟩) } := by rw [hD6]; exact abs_ch Dk y _
    have hok6 : D6.abs.Ok := by rw [habs6]; exact hok.turn (c := cy.dat) hdat _ _
    have hp6 : ∀ z, (D6.ch z).map (·.cb) = (D2.ch z).map (·.cb) := fun z => by
      rw [← hpk z, hD6]
      by_cases e : z = y
      · subst e
        show (updC Dk.ch z _ z).map _ = _
        rw [updC_same, hcy]; rfl
      · show (updC Dk.ch y _ z).map _ = _
        rw [updC_other _ _ e]
    have hxb6 : (D6.bf c.buf).map (·.bb) = some x.bb := by rw [hD6]; exact hxb
    have hun : Ga.unhang i Dk.abs y = if delS i cy.on = [] then Ga.freed D6.abs y cy.buf else D6.abs := by
      rw [habs6]
      unfold Ga.unhang
      rw [hdat]
      rfl
    have HREM6 : Hid (Calls Try.prog 56 #[.pointer (some ⟨cy.cb, 2, none⟩), .int .i64 i] W.drew fun e W' => ∃ r, e = .returned r ∧ GrAt (Grown (fun k => OwnC g D c k ∨ w5.heap.size + 2 ≤ k) W.drew) W' g D6 ∧ Only (fun k => OwnC g D c k ∨ w5.heap.size + 2 ≤ k) W.drew W' ∧ Only (fun k => cy.om = some k) W.drew W') := Hid.mk (by rw [hD6]; exact hgk.drew.onRem hcy i hwi)
    have hFnD : FnI F w w5 q g D D2 i c x.bb ((c.ab.take k).foldl (Ga.unhang i) D2.abs) W.drew := hOther _ W W.drew (fun _ => False) hFn ((Only.refl _ W).drew) (fun _ _ h => h.elim)
    have HA6 : Hid (∀ w6, GrAt (Grown (fun k => OwnC g D c k ∨ w5.heap.size + 2 ≤ k) W.drew) w6 g D6 → Only (fun k => OwnC g D c k ∨ w5.heap.size + 2 ≤ k) W.drew w6 → (w6.cell? ⟨w.heap.size + 1, 0, none⟩ = some (ptV c.cb) ∧ w6.cell? ⟨c.cb, 0, none⟩ = some (.int .i64 i)) ∧ Hid (FnI F w w5 q g D D2 i c x.bb D6.abs w6 ∧ (w6.heap[w5.heap.size]? = W.heap[w5.heap.size]? ∧ w6.heap[w5.heap.size + 1]? = W.heap[w5.heap.size + 1]?) ∧ GrAt (fun k => OwnC g D c k ∨ w5.heap.size + 2 ≤ k) w6 g D6 ∧ w5.heap.size + 2 ≤ w6.heap.size)) := Hid.mk (fun w6 hg6 ho6 => by
      obtain ⟨f1, f2⟩ := hFnD.move ho6 hW2 hg6 hFF rfl hok6 hp6 hxb6 hq0 hSZ.1 hSZ.2 HCL.out HOC.out
      have hs6 := ho6.size
      have hs7 : W.drew.heap.size = W.heap.size := rfl
      refine ⟨⟨by rw [blk_cell f1.b1]; rfl, by rw [blk_cell f1.cc]; rfl⟩, Hid.mk ⟨f1, f2, hg6.mono (fun k _ hk => ?_), by omega⟩⟩
      rcases hk with hk | hk
      · exact hk
      · exact .inr (by have hk2 : W.heap.size ≤ k := hk; omega))
    have HS6 : Hid (W.drew.cell? ⟨w.heap.size + 1, 0, none⟩ = some (ptV c.cb) ∧ W.drew.cell? ⟨c.cb, 0, none⟩ = some (.int .i64 i)) := Hid.mk ⟨by rw [blk_cell hFnD.b1]; rfl, by rw [blk_cell hFnD.cc]; rfl⟩
    have HTK := Hid.mk (htk.trans hun)
    have HC6 := Hid.mk hc6
    have HX6 := Hid.mk hx6
    have HP6 := Hid.mk hp6
    have HOK6 := Hid.mk hok6
    have HXB6 := Hid.mk hxb6
    have HWY : Hid ((Lit.int .i64 y).wf = true ∧ (Lit.int .i64 cy.buf).wf = true ∧ xy.nx.length < 1000000 ∧ (0 ≤ y ∧ y < D6.abs.added)) := Hid.mk ⟨hwyi, hwy, hnx, by rw [habs6]; exact hyr⟩
    have HG6 : Hid (∀ W6, GrAt (fun k => OwnC g D c k ∨ w5.heap.size + 2 ≤ k) W6 g D6 → W6.cell? ⟨cy.cb, 2, none⟩ = some (.map cy.om) ∧ StAt W6 cy.om (delS i cy.on)) := Hid.mk (fun W6 hg => ⟨(hg.cellsC hc6).2.2.1, hg.cont (.on y) _ hc6⟩)
    clear hgk habs hok hpk hxb hy hyi hPk hPk2 hcy htk hdat hyr hwy hbfy hwyi hxy hnx hD6 hc6 hx6 habs6 hok6 hp6 hxb6 hun hFnD hFn hcb
    gi_wp2
    refine round_region_held (S := fun W' => W'.cell? ⟨w.heap.size + 1, 0, none⟩ = some (ptV c.cb) ∧ W'.cell? ⟨c.cb, 0, none⟩ = some (.int .i64 i)) (by kernel_rfl) (by kernel_rfl) HS6.out (fun hH => ?_)
    change wpAnyH Try.prog Region.Mode.any _ _ _ 8 _ _ _
    refine takeH 0 38 (.pointer (some ⟨cy.cb, 0, none⟩)) rfl (by kernel_rfl) (by kernel_rfl) (by kernel_rfl) (by kernel_rfl) (fun _ _ _ h => h) (by kernel_rfl) (fun w hw => by kernel_rfl) hH ?_
    simp only [List.setIfInBounds_toArray, List.set_cons_zero, List.set_cons_succ]
    refine takeH 1 39 (.pointer (some ⟨cy.cb, 0, none⟩)) rfl (by kernel_rfl) (by kernel_rfl) (by kernel_rfl) (by kernel_rfl) (fun _ _ _ h => h) (by kernel_rfl) (fun w hw => by (try dsimp only at hw); go_simp) hH ?_
    simp only [List.setIfInBounds_toArray, List.set_cons_zero, List.set_cons_succ]
    refine takeH 2 40 (.pointer (some ⟨cy.cb, 2, none⟩)) rfl (by kernel_rfl) (by kernel_rfl) (by kernel_rfl) (by kernel_rfl) (fun _ _ _ h => h) (by kernel_rfl) (fun w hw => by (try dsimp only at hw); go_simp) hH ?_
    simp only [List.setIfInBounds_toArray, List.set_cons_zero, List.set_cons_succ]
    refine takeH 3 41 (.pointer (some ⟨c.cb, 0, none⟩)) rfl (by kernel_rfl) (by kernel_rfl) (by kernel_rfl) (by kernel_rfl) (fun _ _ _ h => h) (by kernel_rfl) (fun w hw => by (try dsimp only at hw); go_simp) hH ?_
    simp only [List.setIfInBounds_toArray, List.set_cons_zero, List.set_cons_succ]
    refine takeH 4 42 (.pointer (some ⟨c.cb, 0, none⟩)) rfl (by kernel_rfl) (by kernel_rfl) (by kernel_rfl) (by kernel_rfl) (fun _ _ _ h => h) (by kernel_rfl) (fun w hw => by (try dsimp only at hw); go_simp) hH ?_
    simp only [List.setIfInBounds_toArray, List.set_cons_zero, List.set_cons_succ]
    refine takeH 5 43 (.pointer (some ⟨c.cb, 0, none⟩)) rfl (by kernel_rfl) (by kernel_rfl) (by kernel_rfl) (by kernel_rfl) (fun _ _ _ h => h) (by kernel_rfl) (fun w hw => by (try dsimp only at hw); go_simp) hH ?_
    simp only [List.setIfInBounds_toArray, List.set_cons_zero, List.set_cons_succ]
    refine takeH 6 44 (.int .i64 i) rfl (by kernel_rfl) (by kernel_rfl) (by kernel_rfl) (by kernel_rfl) (fun _ _ _ h => h) (by kernel_rfl) (fun w hw => by (try dsimp only at hw); go_simp) hH ?_
    simp only [List.setIfInBounds_toArray, List.set_cons_zero, List.set_cons_succ]
    refine stepH_call 7 45 rfl (by kernel_rfl) (by kernel_rfl) (by kernel_rfl) 56 #[.tmp 40, .tmp 44] #[64, 3] (by kernel_rfl) (enters_of Try.func56 (by kernel_rfl) rfl) #[.pointer (some ⟨cy.cb, 2, none⟩), .int .i64 i] (by kernel_rfl) HREM6.out ?_
    rintro e w6 ⟨r6, rfl, hg6, ho6, _⟩
    obtain ⟨hH6, HF6⟩ := HA6.out w6 hg6 ho6
    clear hg6 ho6
    refine ⟨_, rfl, hH6, ?_⟩
    simp only [List.setIfInBounds_toArray, List.set_cons_zero, List.set_cons_succ]
    refine wpAnyH_done (by kernel_rfl) ?_ _
    dsimp only [Norm]
    obtain ⟨f1, f2, f3, f4⟩ := HF6.out
    obtain ⟨g61, g62⟩ := HG6.out w6 f3
    obtain ⟨n6, hn6⟩ : ∃ n : Nat, n = (delS i cy.on).length := ⟨_, rfl⟩
    have HSIZE := Hid.mk (size_any w6 cy.cb 2 cy.om (delS i cy.on) g61 g62)
    rw [← hn6] at HSIZE
    clear hH hH6 g61 g62 HREM6 HA6 HS6 HG6
    by_cases hemp : delS i cy.on = []
    · have h60 : n6 = 0 := by rw [hn6, hemp]; rfl
      subst h60
      obtain ⟨v1, v2, v3, v4⟩ := HWY.out
      have HFREE := Hid.mk (free_any f3 HC6.out HX6.out v1 v2 v3)
      have HB6 : Hid (w6.cell? ⟨w.heap.size, 0, none⟩ = some (ptV g)) := Hid.mk (by rw [blk_cell f1.b0]; rfl)
      have b60 := HB6.out
      have HFIN : Hid (∀ w7 nm', GrAt (Grown (fun k => OwnC g D c k ∨ w5.heap.size + 2 ≤ k) w6) w7 g { D6 with bf := updC D6.bf cy.buf (some ⟨insS y xy.nx, delS y xy.bl, xy.bb, nm', xy.km⟩) } → Only (fun k => OwnC g D c k ∨ w5.heap.size + 2 ≤ k) w6 w7 → FnI F w w5 q g D D2 i c x.bb ((c.ab.take (k + 1)).foldl (Ga.unhang i) D2.abs) w7 ∧ w7.heap[w5.heap.size]? = W.heap[w5.heap.size]? ∧ w7.heap[w5.heap.size + 1]? = W.heap[w5.heap.size + 1]?) := Hid.mk (fun w7 nm' hg7 ho7 => by
        have hz : ({ D6 with bf := updC D6.bf cy.buf (some ⟨insS y xy.nx, delS y xy.bl, xy.bb, nm', xy.km⟩) } : Gd).abs = (c.ab.take (k + 1)).foldl (Ga.unhang i) D2.abs := by
          rw [HTK.out, if_pos hemp, abs_bf]
          unfold Ga.freed
          rw [show D6.abs.bf cy.buf = some xy.dat by show (D6.bf _).map _ = _; rw [HX6.out]; rfl]
          rfl
        have hokz : ({ D6 with bf := updC D6.bf cy.buf (some ⟨insS y xy.nx, delS y xy.bl, xy.bb, nm', xy.km⟩) } : Gd).abs.Ok := by
          rw [hz, HTK.out, if_pos hemp]
          exact HOK6.out.freed v4
        obtain ⟨a1, a2, a3⟩ := f1.move ho7 f4 hg7 hFF hz hokz HP6.out (by
          show (updC D6.bf cy.buf _ c.buf).map _ = _
          by_cases e : c.buf = cy.buf
          · have h5 := HXB6.out
            rw [e, HX6.out] at h5
            rw [e, updC_same]
            exact h5
          · rw [updC_other _ _ e]
            exact HXB6.out) hq0 hSZ.1 hSZ.2 HCL.out HOC.out
        exact ⟨a1, a2.trans f2.1, a3.trans f2.2⟩)
      clear f1 f2 f3 f4 hn6 hemp v1 v2 v3 v4 HWY HC6 HX6 HP6 HOK6 HXB6 HTK HF6 HB6
      gi_wp2_with (first
        | (refine ⟨trivial, ?_⟩; gi_at_call 38; refine (callsIn_round HSIZE.out).mono ?_; rintro e w7 ⟨rfl, rfl⟩)
        | (refine ⟨trivial, ?_⟩; gi_at_call 57; refine (callsIn_round HFREE.out).mono ?_; rintro e w8 ⟨rfl, nm', hg8, ho8⟩))
      obtain ⟨a1, a2, a3⟩ := HFIN.out w8 nm' hg8 ho8
      first | exact ⟨a2, a3, .inl ⟨rfl, a1⟩⟩ | exact ⟨a2, a3, a1⟩
    · have h60 : n6 ≠ 0 := by rw [hn6]; exact fun e => hemp (List.eq_nil_of_length_eq_zero e)
      have h61 : ¬ ((n6 : Nat) : Int) = 0 := by omega
      have h62 : (((n6 : Nat) : Int) == 0) = false := by simpa using h60
      have HFIN : Hid (FnI F w w5 q g D D2 i c x.bb ((c.ab.take (k + 1)).foldl (Ga.unhang i) D2.abs) w6 ∧ w6.heap[w5.heap.size]? = W.heap[w5.heap.size]? ∧ w6.heap[w5.heap.size + 1]? = W.heap[w5.heap.size + 1]?) := Hid.mk ⟨by rw [HTK.out, if_neg hemp]; exact f1, f2⟩
      clear f1 f2 f3 f4 hn6 hemp HWY HC6 HX6 HP6 HOK6 HXB6 HTK HF6
      gi_wp2_with (first
        | (refine ⟨trivial, ?_⟩; gi_at_call 38; refine (callsIn_round HSIZE.out).mono ?_; rintro e w7 ⟨rfl, rfl⟩))
      obtain ⟨a1, a2, a3⟩ := HFIN.out
      first | exact ⟨a2, a3, .inl ⟨rfl, a1⟩⟩ | exact ⟨a2, a3, a1⟩
  case done =>
    rintro D9 W9 hD9 hFn hKD
    subst hD9
    rw [List.take_length] at hFn
    obtain ⟨D3, hg3, habs3, hok3, hp3, hxb3⟩ := hFn.gr
    obtain ⟨x3, hx3, hxb⟩ : ∃ x3, D3.bf c.buf = some x3 ∧ x3.bb = x.bb := by
      cases hb : D3.bf c.buf with
      | none => rw [hb] at hxb3; cases hxb3
      | some z => rw [hb] at hxb3; exact ⟨z, rfl, Option.some.inj hxb3⟩
    obtain ⟨bm3, hbm3⟩ : ∃ l, D3.bm = some l := by
      have hm : MapAt W9 D3.bm D3.nb (bufF D3.bf) := hg3.cont .bufs
      cases hl : D3.bm with
      | none =>
        rw [hl] at hm
        have := hm.2 (.int .i64 c.buf)
        simp [bufF, hx3] at this
      | some l => exact ⟨l, rfl⟩
    obtain ⟨xN, hxN⟩ : ∃ n : Nat, n = x3.nx.length := ⟨_, rfl⟩
    obtain ⟨xB, hxB⟩ : ∃ n : Nat, n = x3.bl.length := ⟨_, rfl⟩
    have hdat3 : D3.abs.bf c.buf = some x3.dat := by show (D3.bf _).map _ = _; rw [hx3]; rfl
    have hl1 : xN ≤ 900000 := by
      have := rise_len (hg3.cont (.nx c.buf) x3 hx3).1.1 (hok3.nxs c.buf x3.dat hdat3).1
      have := hok3.big
      omega
    have hl2 : xB ≤ 900000 := by
      have := rise_len (hg3.cont (.bl c.buf) x3 hx3).1.1 (hok3.nxs c.buf x3.dat hdat3).2
      have := hok3.big
      omega
    have HSZ1 : Hid (Calls Try.prog 38 #[.pointer (some ⟨x.bb, 0, none⟩)] W9.drew fun e W' => e = .returned (.int .i64 (xN : Nat)) ∧ W' = W9.drew) := Hid.mk (by rw [← hxb, hxN]; exact size_any W9.drew x3.bb 0 x3.nm x3.nx (hg3.drew.cellsB hx3).1 (hg3.drew.cont (.nx c.buf) x3 hx3))
    have HSZ2 : Hid (Calls Try.prog 38 #[.pointer (some ⟨x.bb, 1, none⟩)] W9.drew fun e W' => e = .returned (.int .i64 (xB : Nat)) ∧ W' = W9.drew) := Hid.mk (by rw [← hxb, hxB]; exact size_any W9.drew x3.bb 1 x3.km x3.bl (hg3.drew.cellsB hx3).2.1 (hg3.drew.cont (.bl c.buf) x3 hx3))
    have u1 : IntKind.i64.wrap ((xN : Int) + (xB : Int)) = ((xN + xB : Nat) : Int) := by rw [IntKind.wrap_i64]; omega
    have hFF : ∀ k, OwnC g D c k → F k := fun k hk => HH.out.inF hk.1
    have hq0 : w.heap.size + 2 ≤ q := by have := HF3.out.2.2.2.2.2.1; have hq3 : q = w3.heap.size := HQ.out; omega
    have hsh : D.abs.finish i = D3.abs.shed c.buf := by
      unfold Ga.finish
      rw [HAI.out]
      show ((c.ab.foldl (Ga.unhang i) (D.abs.cut i c.buf))).shed c.buf = _
      rw [← HOK2.out.2, ← habs3]
    have hplc : ∀ y, y ≠ i → (D3.ch y).map (·.cb) = (D.ch y).map (·.cb) := fun y hy => by rw [hp3 y, HCH.out y hy]
    have HTAKE : Hid (∀ W', W'.heap[w5.heap.size]? = some (.deferred (some [])) → (W'.putObj w5.heap.size (.deferred none)).heap.size = W'.heap.size ∧ Only (fun k => k = w5.heap.size) W' (W'.putObj w5.heap.size (.deferred none))) := Hid.mk (fun W' hk => by
      have hg := grownBy_putObj' W' w5.heap.size (.deferred none)
      exact ⟨by simp [World.putObj], ⟨hg.os, hg.tape, hg.output, hg.size, fun j hj hs => hg.block j hj (fun e => hs (by cases e; rfl))⟩⟩)
    have hlt5 := lt_of_block hKD
    obtain ⟨tt, htt⟩ : ∃ tt : Nat, tt = xN + xB := ⟨_, rfl⟩
    rw [← htt] at u1
    have hKD2 : W9.drew.heap[w5.heap.size]? = some (.deferred (some [])) := hKD
    have hgd := hg3.drew
    have hond := hFn.on.drew
    have hown5 : ∀ k, (OwnC g D c k ∨ w5.heap.size + 2 ≤ k) → ¬ k = w5.heap.size := by
      rintro k (hk | hk) e
      · have := HOC.out k hk; omega
      · omega
    have hgrow : ∀ k, (OwnC g D c k ∨ w5.heap.size + 2 ≤ k) → Grown F w k := fun k hk => hk.elim (fun h' => .inl (hFF k h')) (fun h' => .inr (by omega))
    have HS9 : Hid (W9.drew.cell? ⟨w.heap.size, 0, none⟩ = some (ptV g)) := Hid.mk ((blk_cell hFn.b0 0).trans rfl)
    by_cases hemp : tt = 0
    · have hz : (((tt : Nat) : Int) == 0) = true := by simp [hemp]
      have hz2 : ((tt : Nat) : Int) = 0 := by omega
      obtain ⟨o9, hdel9, hm9⟩ : ∃ o, (Builtin.delete_ #[58, 3] 0 #[.map (some bm3), .int .i64 c.buf]).run Try.prog W9.drew.drew = .ok (.tuple #[]) (setBlock W9.drew.drew bm3 o) ∧ MAt (setBlock W9.drew.drew bm3 o) 3 bm3 (D3.nb - 1) (bufF (updC D3.bf c.buf none)) := by
        have hm : MapAt W9.drew.drew D3.bm D3.nb (bufF D3.bf) := hg3.drew.drew.cont .bufs
        rw [hbm3] at hm
        obtain ⟨o, hr, hm2⟩ := MAt.del hm keyed3 Try.underlying58 (key_int hwb) 0
        refine ⟨o, hr, ?_⟩
        have e1 : (bufF D3.bf (.int .i64 c.buf)).isSome = true := by simp [bufF, hx3]
        rw [if_pos e1] at hm2
        exact hm2.say (fun _ l _ => (buf_upd D3.bf c.buf none l).symm)
      obtain ⟨w9, hw9⟩ : ∃ w9, w9 = setBlock W9.drew.drew bm3 o9 := ⟨_, rfl⟩
      rw [← hw9] at hdel9 hm9
      have hO9 : Only (fun k => k = bm3) W9.drew.drew w9 := by rw [hw9]; exact Only.setBlock (S := fun k => k = bm3) (Only.refl _ _) (.inl rfl) o9
      have hbmF := (hg3.own .bufs bm3 hbm3)
      have hg9 := hg3.drew.drew.bfDel (i := c.buf) hbm3 hO9 hm9
      have hbn : ∀ k, w.heap.size ≤ k → k < w5.heap.size + 2 → ¬ k = bm3 := by
        rintro k hk1 hk2 rfl
        rcases hbmF.1 with h' | h'
        · have := HOC.out _ h'; omega
        · omega
      have hk9 : ∀ k, k ≤ w5.heap.size → ¬ k = bm3 → w9.heap[k]? = W9.heap[k]? := fun k hk hn => hO9.block k (by show k < W9.heap.size; omega) hn
      have hcbn : ¬ c.cb = bm3 := by
        intro e
        rcases hbmF.1 with h' | h'
        · exact h'.2.1 e.symm
        · have := HCL.out c.cb (.inl rfl); omega
      have e90 : w9.heap[w.heap.size]? = _ := (hk9 _ (by omega) (hbn _ (Nat.le_refl _) (by omega))).trans hFn.b0
      have e91 : w9.heap[w.heap.size + 1]? = _ := (hk9 _ (by omega) (hbn _ (by omega) (by omega))).trans hFn.b1
      have e9c : w9.heap[c.cb]? = _ := (hk9 _ (by have := HCL.out c.cb (.inl rfl); omega) hcbn).trans hFn.cc
      have hKD9 : w9.heap[w5.heap.size]? = some (.deferred (some [])) := (hk9 _ (by omega) (hbn _ (by omega) (by omega))).trans hKD
      have HDEL9 := Hid.mk hdel9
      have HS10 : Hid (W9.drew.drew.cell? ⟨w.heap.size, 0, none⟩ = some (ptV g) ∧ W9.drew.drew.cell? ⟨w.heap.size + 1, 0, none⟩ = some (ptV c.cb) ∧ W9.drew.drew.cell? ⟨g, 2, none⟩ = some (.map (some bm3)) ∧ W9.drew.drew.cell? ⟨c.cb, 1, none⟩ = some (.int .i64 c.buf)) := Hid.mk ⟨(blk_cell hFn.b0 0).trans rfl, (blk_cell hFn.b1 0).trans rfl, by rw [← hbm3]; exact hg3.cellsG.2.2.1, (blk_cell hFn.cc 1).trans rfl⟩
      have HS10b : Hid (w9.cell? ⟨w.heap.size, 0, none⟩ = some (ptV g) ∧ w9.cell? ⟨w.heap.size + 1, 0, none⟩ = some (ptV c.cb) ∧ w9.cell? ⟨g, 2, none⟩ = some (.map (some bm3)) ∧ w9.cell? ⟨c.cb, 1, none⟩ = some (.int .i64 c.buf)) := Hid.mk ⟨(blk_cell e90 0).trans rfl, (blk_cell e91 0).trans rfl, by rw [← hbm3]; exact hg9.cellsG.2.2.1, (blk_cell e9c 1).trans rfl⟩
      have HFIN : Hid (∃ D', GrAt (Grown F w) (w9.putObj w5.heap.size (.deferred none)) g D' ∧ D'.abs = D.abs.finish i ∧ (∀ y, y ≠ i → (D'.ch y).map (·.cb) = (D.ch y).map (·.cb)) ∧ Only F w (w9.putObj w5.heap.size (.deferred none))) := Hid.mk (by
        obtain ⟨t1, t2⟩ := HTAKE.out w9 hKD9
        refine ⟨_, (hg9.only t2 (fun k hk _ => hown5 k hk)).mono (fun k _ hk => hgrow k hk), ?_, hplc, ?_⟩
        · rw [hsh, abs_bfN]
          unfold Ga.shed
          rw [hdat3]
          show _ = if x3.nx.length + x3.bl.length = 0 then _ else _
          rw [if_pos (by omega)]
        · refine ((hond.drew.trans hO9 (fun k hk => ?_))).trans t2 (fun k hk => .inr (by omega))
          subst hk
          exact (hgrow _ hbmF.1))
      have HKD9 := Hid.mk hKD9
      clear hdel9 hm9 hw9 hO9 hbmF hg9 hbn hk9 hcbn e90 e91 e9c hKD9 hgrow hown5 hond hgd hKD2 HTAKE hplc hsh hq0 hFF hl1 hl2 hdat3 hxN hxB hbm3 hx3 hxb hg3 habs3 hok3 hp3 hxb3 hFn hKD htt hemp hlt5
      gi_wp2
      refine wide_region_held (S := fun W' => W'.cell? ⟨w.heap.size, 0, none⟩ = some (ptV g)) (by kernel_rfl) (by kernel_rfl) HS9.out (fun hH => ?_)
      change wpAnyH Try.prog Region.Mode.any _ _ _ 10 _ _ _
      refine takeHD 0 54 (.pointer (some ⟨x.bb, 0, none⟩)) rfl (by kernel_rfl) (by kernel_rfl) (by kernel_rfl) (by kernel_rfl) (fun _ _ _ h => h) (by kernel_rfl) (fun w hw => by kernel_rfl) hH ?_
      simp only [List.setIfInBounds_toArray, List.set_cons_zero, List.set_cons_succ]
      refine takeHD 1 55 (.pointer (some ⟨x.bb, 0, none⟩)) rfl (by kernel_rfl) (by kernel_rfl) (by kernel_rfl) (by kernel_rfl) (fun _ _ _ h => h) (by kernel_rfl) (fun w hw => by (try dsimp only at hw); go_simp) hH ?_
      simp only [List.setIfInBounds_toArray, List.set_cons_zero, List.set_cons_succ]
      refine takeHD 2 56 (.pointer (some ⟨x.bb, 0, none⟩)) rfl (by kernel_rfl) (by kernel_rfl) (by kernel_rfl) (by kernel_rfl) (fun _ _ _ h => h) (by kernel_rfl) (fun w hw => by (try dsimp only at hw); go_simp) hH ?_
      simp only [List.setIfInBounds_toArray, List.set_cons_zero, List.set_cons_succ]
      refine takeHD 4 58 (.pointer (some ⟨x.bb, 0, none⟩)) rfl (by kernel_rfl) (by kernel_rfl) (by kernel_rfl) (by kernel_rfl) (fun _ _ _ h => h) (by kernel_rfl) (fun w hw => by kernel_rfl) hH ?_
      simp only [List.setIfInBounds_toArray, List.set_cons_zero, List.set_cons_succ]
      refine takeHD 5 59 (.pointer (some ⟨x.bb, 0, none⟩)) rfl (by kernel_rfl) (by kernel_rfl) (by kernel_rfl) (by kernel_rfl) (fun _ _ _ h => h) (by kernel_rfl) (fun w hw => by (try dsimp only at hw); go_simp) hH ?_
      simp only [List.setIfInBounds_toArray, List.set_cons_zero, List.set_cons_succ]
      refine takeHD 6 60 (.pointer (some ⟨x.bb, 1, none⟩)) rfl (by kernel_rfl) (by kernel_rfl) (by kernel_rfl) (by kernel_rfl) (fun _ _ _ h => h) (by kernel_rfl) (fun w hw => by (try dsimp only at hw); go_simp) hH ?_
      simp only [List.setIfInBounds_toArray, List.set_cons_zero, List.set_cons_succ]
      refine stepH_callD 3 57 rfl (by kernel_rfl) (by kernel_rfl) (by kernel_rfl) 38 #[.tmp 56] #[64] (by kernel_rfl) (enters_of Try.func38 (by kernel_rfl) rfl) #[.pointer (some ⟨x.bb, 0, none⟩)] (by kernel_rfl) HSZ1.out ?_
      rintro e w7 ⟨rfl, rfl⟩
      refine ⟨_, rfl, hH, ?_⟩
      simp only [List.setIfInBounds_toArray, List.set_cons_zero, List.set_cons_succ]
      refine stepH_callD 7 61 rfl (by kernel_rfl) (by kernel_rfl) (by kernel_rfl) 38 #[.tmp 60] #[64] (by kernel_rfl) (enters_of Try.func38 (by kernel_rfl) rfl) #[.pointer (some ⟨x.bb, 1, none⟩)] (by kernel_rfl) HSZ2.out ?_
      rintro e w8 ⟨rfl, rfl⟩
      refine ⟨_, rfl, hH, ?_⟩
      simp only [List.setIfInBounds_toArray, List.set_cons_zero, List.set_cons_succ]
      refine takeHD 8 62 (.int .i64 ((tt : Nat) : Int)) rfl (by kernel_rfl) (by kernel_rfl) (by kernel_rfl) (by kernel_rfl) (fun _ _ _ h => h) (by kernel_rfl) (fun w hw => by (try dsimp only at hw); go_simp) hH ?_
      simp only [List.setIfInBounds_toArray, List.set_cons_zero, List.set_cons_succ]
      refine takeHD 9 63 (.bool true) rfl (by kernel_rfl) (by kernel_rfl) (by kernel_rfl) (by kernel_rfl) (fun _ _ _ h => h) (by kernel_rfl) (fun w hw => by (try dsimp only at hw); go_simp) hH ?_
      simp only [List.setIfInBounds_toArray, List.set_cons_zero, List.set_cons_succ]
      refine wpAnyH_done (by kernel_rfl) ?_ _
      dsimp only [Norm]
      gi_wp2
      refine wide_region_held (S := fun W' => W'.cell? ⟨w.heap.size, 0, none⟩ = some (ptV g) ∧ W'.cell? ⟨w.heap.size + 1, 0, none⟩ = some (ptV c.cb) ∧ W'.cell? ⟨g, 2, none⟩ = some (.map (some bm3)) ∧ W'.cell? ⟨c.cb, 1, none⟩ = some (.int .i64 c.buf)) (by kernel_rfl) (by kernel_rfl) HS10.out (fun hH => ?_)
      change wpAnyH Try.prog Region.Mode.any _ _ _ 9 _ _ _
      refine takeHD 0 64 (.pointer (some ⟨g, 0, none⟩)) rfl (by kernel_rfl) (by kernel_rfl) (by kernel_rfl) (by kernel_rfl) (fun _ _ _ h => h) (by kernel_rfl) (fun w hw => by (try dsimp only at hw); go_simp) hH ?_
      simp only [List.setIfInBounds_toArray, List.set_cons_zero, List.set_cons_succ]
      refine takeHD 1 65 (.pointer (some ⟨g, 0, none⟩)) rfl (by kernel_rfl) (by kernel_rfl) (by kernel_rfl) (by kernel_rfl) (fun _ _ _ h => h) (by kernel_rfl) (fun w hw => by (try dsimp only at hw); go_simp) hH ?_
      simp only [List.setIfInBounds_toArray, List.set_cons_zero, List.set_cons_succ]
      refine takeHD 2 66 (.pointer (some ⟨g, 2, none⟩)) rfl (by kernel_rfl) (by kernel_rfl) (by kernel_rfl) (by kernel_rfl) (fun _ _ _ h => h) (by kernel_rfl) (fun w hw => by (try dsimp only at hw); go_simp) hH ?_
      simp only [List.setIfInBounds_toArray, List.set_cons_zero, List.set_cons_succ]
      refine takeHD 3 67 (.map (some bm3)) rfl (by kernel_rfl) (by kernel_rfl) (by kernel_rfl) (by kernel_rfl) (fun _ _ _ h => h) (by kernel_rfl) (fun w hw => by (try dsimp only at hw); go_simp) hH ?_
      simp only [List.setIfInBounds_toArray, List.set_cons_zero, List.set_cons_succ]
      refine takeHD 4 68 (.pointer (some ⟨c.cb, 0, none⟩)) rfl (by kernel_rfl) (by kernel_rfl) (by kernel_rfl) (by kernel_rfl) (fun _ _ _ h => h) (by kernel_rfl) (fun w hw => by (try dsimp only at hw); go_simp) hH ?_
      simp only [List.setIfInBounds_toArray, List.set_cons_zero, List.set_cons_succ]
      refine takeHD 5 69 (.pointer (some ⟨c.cb, 0, none⟩)) rfl (by kernel_rfl) (by kernel_rfl) (by kernel_rfl) (by kernel_rfl) (fun _ _ _ h => h) (by kernel_rfl) (fun w hw => by (try dsimp only at hw); go_simp) hH ?_
      simp only [List.setIfInBounds_toArray, List.set_cons_zero, List.set_cons_succ]
      refine takeHD 6 70 (.pointer (some ⟨c.cb, 1, none⟩)) rfl (by kernel_rfl) (by kernel_rfl) (by kernel_rfl) (by kernel_rfl) (fun _ _ _ h => h) (by kernel_rfl) (fun w hw => by (try dsimp only at hw); go_simp) hH ?_
      simp only [List.setIfInBounds_toArray, List.set_cons_zero, List.set_cons_succ]
      refine takeHD 7 71 (.int .i64 c.buf) rfl (by kernel_rfl) (by kernel_rfl) (by kernel_rfl) (by kernel_rfl) (fun _ _ _ h => h) (by kernel_rfl) (fun w hw => by (try dsimp only at hw); go_simp) hH ?_
      simp only [List.setIfInBounds_toArray, List.set_cons_zero, List.set_cons_succ]
      refine stepH_oneD 8 (by kernel_rfl) (opH_dropD 8 w9 (.tuple #[]) rfl (by kernel_rfl) (by kernel_rfl) (exec_del (m := .tmp 67) (x := .tmp 71) rfl (by kernel_rfl) (by kernel_rfl) HDEL9.out) HS10b.out ?_)
      refine wpAnyH_done (by kernel_rfl) ?_ _
      dsimp only [Norm]
      gi_wp2
      refine ⟨by simp, .inl ⟨_, _, rfl, run_takeDeferred HKD9.out, ?_⟩⟩
      exact ⟨.tuple #[], results_none rfl _ _ _, rfl, HFIN.out⟩
    · have hz : (((tt : Nat) : Int) == 0) = false := by simpa using hemp
      have hz2 : ¬ ((tt : Nat) : Int) = 0 := by omega
      have HFIN : Hid (∃ D', GrAt (Grown F w) (W9.drew.putObj w5.heap.size (.deferred none)) g D' ∧ D'.abs = D.abs.finish i ∧ (∀ y, y ≠ i → (D'.ch y).map (·.cb) = (D.ch y).map (·.cb)) ∧ Only F w (W9.drew.putObj w5.heap.size (.deferred none))) := Hid.mk (by
        obtain ⟨t1, t2⟩ := HTAKE.out W9.drew hKD2
        refine ⟨D3, (hgd.only t2 (fun k hk _ => hown5 k hk)).mono (fun k _ hk => hgrow k hk), ?_, hplc, ?_⟩
        · rw [hsh]
          unfold Ga.shed
          rw [hdat3]
          show _ = if x3.nx.length + x3.bl.length = 0 then _ else _
          rw [if_neg (by omega)]
        · exact hond.trans t2 (fun k hk => .inr (by omega)))
      have HKD9 := Hid.mk hKD2
      clear hgrow hown5 hond hgd hKD2 HTAKE hplc hsh hq0 hFF hl1 hl2 hdat3 hxN hxB hbm3 hx3 hxb hg3 habs3 hok3 hp3 hxb3 hFn hKD htt hemp hlt5
      gi_wp2
      refine wide_region_held (S := fun W' => W'.cell? ⟨w.heap.size, 0, none⟩ = some (ptV g)) (by kernel_rfl) (by kernel_rfl) HS9.out (fun hH => ?_)
      change wpAnyH Try.prog Region.Mode.any _ _ _ 10 _ _ _
      refine takeHD 0 54 (.pointer (some ⟨x.bb, 0, none⟩)) rfl (by kernel_rfl) (by kernel_rfl) (by kernel_rfl) (by kernel_rfl) (fun _ _ _ h => h) (by kernel_rfl) (fun w hw => by kernel_rfl) hH ?_
      simp only [List.setIfInBounds_toArray, List.set_cons_zero, List.set_cons_succ]
      refine takeHD 1 55 (.pointer (some ⟨x.bb, 0, none⟩)) rfl (by kernel_rfl) (by kernel_rfl) (by kernel_rfl) (by kernel_rfl) (fun _ _ _ h => h) (by kernel_rfl) (fun w hw => by (try dsimp only at hw); go_simp) hH ?_
      simp only [List.setIfInBounds_toArray, List.set_cons_zero, List.set_cons_succ]
      refine takeHD 2 56 (.pointer (some ⟨x.bb, 0, none⟩)) rfl (by kernel_rfl) (by kernel_rfl) (by kernel_rfl) (by kernel_rfl) (fun _ _ _ h => h) (by kernel_rfl) (fun w hw => by (try dsimp only at hw); go_simp) hH ?_
      simp only [List.setIfInBounds_toArray, List.set_cons_zero, List.set_cons_succ]
      refine takeHD 4 58 (.pointer (some ⟨x.bb, 0, none⟩)) rfl (by kernel_rfl) (by kernel_rfl) (by kernel_rfl) (by kernel_rfl) (fun _ _ _ h => h) (by kernel_rfl) (fun w hw => by kernel_rfl) hH ?_
      simp only [List.setIfInBounds_toArray, List.set_cons_zero, List.set_cons_succ]
      refine takeHD 5 59 (.pointer (some ⟨x.bb, 0, none⟩)) rfl (by kernel_rfl) (by kernel_rfl) (by kernel_rfl) (by kernel_rfl) (fun _ _ _ h => h) (by kernel_rfl) (fun w hw => by (try dsimp only at hw); go_simp) hH ?_
      simp only [List.setIfInBounds_toArray, List.set_cons_zero, List.set_cons_succ]
      refine takeHD 6 60 (.pointer (some ⟨x.bb, 1, none⟩)) rfl (by kernel_rfl) (by kernel_rfl) (by kernel_rfl) (by kernel_rfl) (fun _ _ _ h => h) (by kernel_rfl) (fun w hw => by (try dsimp only at hw); go_simp) hH ?_
      simp only [List.setIfInBounds_toArray, List.set_cons_zero, List.set_cons_succ]
      refine stepH_callD 3 57 rfl (by kernel_rfl) (by kernel_rfl) (by kernel_rfl) 38 #[.tmp 56] #[64] (by kernel_rfl) (enters_of Try.func38 (by kernel_rfl) rfl) #[.pointer (some ⟨x.bb, 0, none⟩)] (by kernel_rfl) HSZ1.out ?_
      rintro e w7 ⟨rfl, rfl⟩
      refine ⟨_, rfl, hH, ?_⟩
      simp only [List.setIfInBounds_toArray, List.set_cons_zero, List.set_cons_succ]
      refine stepH_callD 7 61 rfl (by kernel_rfl) (by kernel_rfl) (by kernel_rfl) 38 #[.tmp 60] #[64] (by kernel_rfl) (enters_of Try.func38 (by kernel_rfl) rfl) #[.pointer (some ⟨x.bb, 1, none⟩)] (by kernel_rfl) HSZ2.out ?_
      rintro e w8 ⟨rfl, rfl⟩
      refine ⟨_, rfl, hH, ?_⟩
      simp only [List.setIfInBounds_toArray, List.set_cons_zero, List.set_cons_succ]
      refine takeHD 8 62 (.int .i64 ((tt : Nat) : Int)) rfl (by kernel_rfl) (by kernel_rfl) (by kernel_rfl) (by kernel_rfl) (fun _ _ _ h => h) (by kernel_rfl) (fun w hw => by (try dsimp only at hw); go_simp) hH ?_
      simp only [List.setIfInBounds_toArray, List.set_cons_zero, List.set_cons_succ]
      refine takeHD 9 63 (.bool false) rfl (by kernel_rfl) (by kernel_rfl) (by kernel_rfl) (by kernel_rfl) (fun _ _ _ h => h) (by kernel_rfl) (fun w hw => by (try dsimp only at hw); go_simp) hH ?_
      simp only [List.setIfInBounds_toArray, List.set_cons_zero, List.set_cons_succ]
      refine wpAnyH_done (by kernel_rfl) ?_ _
      dsimp only [Norm]
      gi_wp2
      refine ⟨by simp, .inl ⟨_, _, rfl, run_takeDeferred HKD9.out, ?_⟩⟩
      exact ⟨.tuple #[], results_none rfl _ _ _, rfl, HFIN.out⟩
  case stop =>
    rintro D9 W9 _ hX
    exact hX.elim
end
end Go.Proofs.Ythmbhcmicebcpaa
