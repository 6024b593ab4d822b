/-
  A new pool: all its groups begin with one row.
-/
import Derived.Test.YtjhfkcngaknbdaaAlTake
namespace Go.Proofs.Ytjhfkcngaknbdaa
open Go Go.Proofs Go.RowKit Go.Shelf
attribute [local go_sem] Oper.semAt_some

def rwL (v : Value) (G : Nat) (pre : List Nat) : List Value := (List.range 8).map (fun k => if k ∈ pre.map (· % G) then v else .slice none 0 0)
def plL (v : Value) (G S : Nat) (pre : List Nat) : List Value := .int .i64 G :: .int .i64 S :: rwL v G pre
def rk (v : Value) (G k : Nat) : Value := if k < G then v else .slice none 0 0
def plE (v : Value) (G S : Nat) : List Value := [.int .i64 G, .int .i64 S, rk v G 0, rk v G 1, rk v G 2, rk v G 3, rk v G 4, rk v G 5, rk v G 6, rk v G 7]
theorem rwL_nil (v : Value) (G : Nat) : rwL v G [] = [.slice none 0 0, .slice none 0 0, .slice none 0 0, .slice none 0 0, .slice none 0 0, .slice none 0 0, .slice none 0 0, .slice none 0 0] := rfl
theorem mem_range_mod {G k : Nat} : k ∈ (List.range G).map (· % G) ↔ k < G := by
  rw [List.mem_map]
  constructor
  · rintro ⟨a, ha, rfl⟩
    exact Nat.mod_lt _ (by have := List.mem_range.1 ha; omega)
  · intro h
    exact ⟨k, List.mem_range.2 h, Nat.mod_eq_of_lt h⟩
theorem plL_end (v : Value) (G S : Nat) : plL v G S (List.range G) = plE v G S := by
  have h : ∀ k, (if k ∈ (List.range G).map (· % G) then v else .slice none 0 0) = rk v G k := fun k => by
    unfold rk
    by_cases hk : k < G
    · rw [if_pos (mem_range_mod.2 hk), if_pos hk]
    · rw [if_neg (fun h => hk (mem_range_mod.1 h)), if_neg hk]
  unfold plL rwL plE
  rw [List.map_congr_left (fun k _ => h k)]
  rfl
theorem plL_step (v : Value) (G S : Nat) (pre : List Nat) (x : Nat) : (plL v G S pre).toArray.setIfInBounds (2 + x % G) v = (plL v G S (pre ++ [x])).toArray := by
  rw [List.setIfInBounds_toArray]
  congr 1
  unfold plL
  rw [show 2 + x % G = (x % G + 1) + 1 by omega, List.set_cons_succ, List.set_cons_succ]
  congr 2
  refine List.ext_getElem (by simp [rwL]) (fun i h1 h2 => ?_)
  have hi : i < 8 := by simpa [rwL] using h2
  rw [List.getElem_set]
  by_cases hx : x % G = i
  · rw [if_pos hx]
    simp [rwL, hx]
  · rw [if_neg hx]
    have hx2 : ¬ i = x % G := fun h => hx h.symm
    simp [rwL, hx2]
theorem plL_length (v : Value) (G S : Nat) (pre : List Nat) : (plL v G S pre).length = 10 := by simp [plL, rwL]
abbrev zero10 : Array Value := #[.int .i64 0, .int .i64 0, .slice none 0 0, .slice none 0 0, .slice none 0 0, .slice none 0 0, .slice none 0 0, .slice none 0 0, .slice none 0 0, .slice none 0 0]
/-- Between two rounds. -/
def NI (w : World) (v : Value) (G S : Nat) (pre : List Nat) (W : World) : Prop :=
  W.heap[w.heap.size]? = some (.cells #[v] 39 (0, 0)) ∧ W.heap[w.heap.size + 1]? = some (.cells zero10 52 (0, 0)) ∧ W.heap[w.heap.size + 1 + 1]? = some (.cells (plL v G S pre).toArray 52 (0, 0)) ∧ Below w.heap.size w W ∧ w.heap.size + 5 ≤ W.heap.size
theorem NI_own (w : World) (v : Value) (G S : Nat) : OwnFrom (w.heap.size + 5) (NI w v G S) := by
  intro pre W W' row h hg hr
  obtain ⟨h1, h2, h3, h4, h5⟩ := h
  have hc := fun r e => (hr r e).2
  exact ⟨Bt.keep_cells h1 hg hc, Bt.keep_cells h2 hg hc, Bt.keep_cells h3 hg hc, h4.grown hg h4.size (fun k e => by have := (hr k e).1; omega), Nat.le_trans h5 hg.size⟩
theorem never_own (B : Nat) : OwnFrom B (fun (_ : List Nat) (_ : World) => False) := by
  intro pre W W' row h hg hr
  exact h.elim
theorem loadVar52 {b : Nat} {l : List Value} {W : World} (hN : W.heap[b]? = some (.cells l.toArray 52 (0, 0))) (hl : l.length = 10) : (loadVar 52 ⟨b, 0, none⟩).run Try.prog W = .ok (.agg l.toArray) W := by
  have h := run_loadCells_list (P := Try.prog) W ⟨b, 0, none⟩ l (fun j v hj => by
    rw [add_at, Nat.zero_add, blk_cell hN]
    simpa using hj)
  rw [hl] at h
  have hi : (Try.prog.info? 52).map (fun i => i.size) = some 10 := by kernel_rfl
  simp [loadVar, h]
theorem results_pool {f : Func} {tmps : Array Value} {a b : Nat} {l : List Value} {W : World} (hf : f.results = #[.cell a 52]) (ht : tmps.getD a undef = .pointer (some ⟨b, 0, none⟩)) (hN : W.heap[b]? = some (.cells l.toArray 52 (0, 0))) (hl : l.length = 10) : (results f tmps).run Try.prog W = .ok (.agg l.toArray) W := by
  have h := loadVar52 hN hl
  have ht2 : tmps[a]?.getD undef = .pointer (some ⟨b, 0, none⟩) := by rw [← ht]; simp
  unfold results
  rw [hf]
  simp [ht2, asAddr, h]
theorem loadAt52 {b : Nat} {l : List Value} {W : World} (hN : W.heap[b]? = some (.cells l.toArray 52 (0, 0))) (hl : l.length = 10) : (Instr.loadAt 52 (.pointer (some ⟨b, 0, none⟩))).run Try.prog W = .ok (.agg l.toArray) W := by
  have h := loadVar52 hN hl
  simp [Instr.loadAt, Instr.sureAddr, h]
theorem store52_run {b : Nat} {l m : List Value} {W : World} (hN : W.heap[b]? = some (.cells l.toArray 52 (0, 0))) (hl : l.length = 10) (hm : m.length = 10) (h1 : ∀ v ∈ m, v.oneCell' = true) : ∃ W', (Instr.storeAt 52 (.pointer (some ⟨b, 0, none⟩)) (.agg m.toArray)).run Try.prog W = .ok () W' ∧ W'.heap[b]? = some (.cells m.toArray 52 (0, 0)) ∧ Only (fun k => k = b) W W' := by
  have hst := run_storeCells_at Try.prog b 0 52 m 0 l.toArray W hN (by simp [hl, hm]) h1
  have e : (l.toArray.toList.take (0 + 0) ++ m ++ l.toArray.toList.drop (0 + 0 + m.length)).toArray = m.toArray := by
    rw [List.drop_of_length_le (by simp [hl, hm])]
    simp
  rw [e] at hst
  refine ⟨_, ?_, setRow_heap W b _ _ 52 _ hN, (Only.refl (fun k => k = b) W).setRow (.inl rfl) _⟩
  · simp [Instr.storeAt, Instr.sureAddr, storeVar, Value.cells, hm]
    simpa using hst
theorem rk_one (ao : Option Addr) (l c G k : Nat) : (rk (.slice ao l c) G k).oneCell' = true := by
  unfold rk
  split <;> rfl
theorem plE_one (ao : Option Addr) (l c : Nat) {G S : Nat} : ∀ v ∈ plE (.slice ao l c) G S, v.oneCell' = true := by
  intro v hv
  simp [plE] at hv
  rcases hv with rfl | rfl | rfl | rfl | rfl | rfl | rfl | rfl | rfl | rfl <;> first | rfl | exact rk_one _ _ _ _ _
section
variable {F : Fence} {n : Nat} {w : World} {ops : Array Oper} {rest : List Oper} {o : Oper} {a : Act} {Q : Exit → Act → World → Prop}
theorem wpLIn_known (hp : ∀ c, o.op ≠ .defer c) (ha : o.about Try.prog w a.eval = none) (hw : Region.wanted o (yielded ops a.tmps) = true) (v : Value) (w' : World) (hrun : (execOp a.eval o).run Try.prog w = .ok (.value v) w') (h : wpListIn F n Try.prog ops Q rest (a.put o.dst v) w') : wpListIn F n Try.prog ops Q (o :: rest) a w := by
  refine BigFrame.wpListIn_want hw fun K hK => ?_
  unfold Oper.wpIn
  refine ⟨fun f hf => (by rw [ha] at hf; cases hf), ?_⟩
  rw [Oper.semAt_plain F _ _ hp, hrun, Oper.uponIn_value]
  exact hK _ _ h
theorem wpLIn_stored (hp : ∀ c, o.op ≠ .defer c) (ha : o.about Try.prog w a.eval = none) (hw : Region.wanted o (yielded ops a.tmps) = true) (w' : World) (hrun : (execOp a.eval o).run Try.prog w = .ok .skip w') (h : wpListIn F n Try.prog ops Q rest (a.put o.dst undef) w') : wpListIn F n Try.prog ops Q (o :: rest) a w := by
  refine BigFrame.wpListIn_want hw fun K hK => ?_
  unfold Oper.wpIn
  refine ⟨fun f hf => (by rw [ha] at hf; cases hf), ?_⟩
  rw [Oper.semAt_plain F _ _ hp, hrun, Oper.uponIn_skip]
  exact hK _ _ h
theorem wpLIn_loadP (x : Operand) (ho : o.op = .load 52 x) (hw : Region.wanted o (yielded ops a.tmps) = true) (p : Addr) (v : Value) (hx : a.eval x = .pointer (some p)) (hr : (Instr.loadAt 52 (.pointer (some p))).run Try.prog w = .ok v w) (h : wpListIn F n Try.prog ops Q rest (a.put o.dst v) w) : wpListIn F n Try.prog ops Q (o :: rest) a w :=
  wpLIn_known (by rw [ho]; intro c hc; cases hc) (by simp [Oper.about, ho]) hw _ _ (by
    unfold execOp
    rw [ho]
    simp only [hx, Sem.run_bind, hr, Result.andThen_ok]
    rfl) h
theorem wpLIn_storeP (p x : Operand) (ho : o.op = .store 52 p x) (hw : Region.wanted o (yielded ops a.tmps) = true) (v u : Value) (w' : World) (hp : a.eval p = v) (hx : a.eval x = u) (hr : (Instr.storeAt 52 v u).run Try.prog w = .ok () w') (h : wpListIn F n Try.prog ops Q rest (a.put o.dst undef) w') : wpListIn F n Try.prog ops Q (o :: rest) a w :=
  wpLIn_stored (by rw [ho]; intro c hc; cases hc) (by simp [Oper.about, ho]) hw _ (exec_store ho hp hx hr) h
end
set_option maxRecDepth 100000 in
set_option maxHeartbeats 4000000 in
theorem newpool_any (w : World) (G S : Nat) (hG : G ≤ 8) (ao : Option Addr) (l c : Nat) :
    Calls Try.prog 28 #[.int .i64 G, .int .i64 S, .slice ao l c] w fun e w' => e = .returned (.agg (plE (.slice ao l c) G S).toArray) ∧ Below w.heap.size w w' := by
  refine (callsIn_wide (n := 5)).1 ?_
  refine callsIn_of_wp_marks Try.func28 rfl trivial ?_ rfl
  simp only [Try.ntmps28, List.size_toArray, List.length_cons, List.length_nil, Nat.reduceAdd, Nat.reduceSub, Array.replicate_succ, Array.replicate_zero, List.push_toArray, List.append_toArray, List.nil_append, List.cons_append]
  gi_wp2_with (refine ⟨trivial, ?_⟩; gi_at_call 43; refine (callsIn_wide.2 (round_any _ G 0)).mono ?_; rintro e w3 ⟨rfl, hR3, hs3, hB3⟩)
  have q0 := blk_new w (.cells #[.slice ao l c] 39)
  have q1 := blk_new (w.alloc (.cells #[.slice ao l c] 39)) (.cells zero10 52)
  have q2 := blk_new ((w.alloc (.cells #[.slice ao l c] 39)).alloc (.cells zero10 52)) (.cells #[.int .i64 G, .int .i64 S, .slice none 0 0, .slice none 0 0, .slice none 0 0, .slice none 0 0, .slice none 0 0, .slice none 0 0, .slice none 0 0, .slice none 0 0] 52)
  have hB0 : Below w.heap.size w (((w.alloc (.cells #[.slice ao l c] 39)).alloc (.cells zero10 52)).alloc (.cells #[.int .i64 G, .int .i64 S, .slice none 0 0, .slice none 0 0, .slice none 0 0, .slice none 0 0, .slice none 0 0, .slice none 0 0, .slice none 0 0, .slice none 0 0] 52)) := (((Below.refl _ w).alloc (Nat.le_refl _) _).alloc (by simp) _).alloc (by simp; omega) _
  simp only [World.size_alloc] at q1 q2 hs3 hB3 hR3
  have z0 : w3.heap[w.heap.size]? = some (.cells #[.slice ao l c] 39 (0, 0)) := by
    rw [hB3.block _ (by omega), Below.heap_alloc _ _ _ (by simp; omega), Below.heap_alloc _ _ _ (by simp)]; exact q0
  have z1 : w3.heap[w.heap.size + 1]? = some (.cells zero10 52 (0, 0)) := by
    rw [hB3.block _ (by omega), Below.heap_alloc _ _ _ (by simp)]; exact q1
  have z2 : w3.heap[w.heap.size + 1 + 1]? = some (.cells (plL (.slice ao l c) G S []).toArray 52 (0, 0)) := by
    rw [hB3.block _ (by omega)]; exact q2
  have zs : w3.heap.size = w.heap.size + 5 := by omega
  have zb : Below w.heap.size w w3 := hB0.trans (hB3.mono (by omega))
  clear q0 q1 q2 hB3 hs3 hB0
  have hg0 : grpOf G 0 = 0 := by unfold grpOf; split <;> rfl
  rw [hg0] at hR3
  have hseq := round_stops 4 (by omega) (w.heap.size + 1 + 1 + 1) G 0 hG (by omega) w3 (fun k => k = w.heap.size + 1 + 1 + 1 ∨ k = w.heap.size + 1 + 1 + 1 + 1) hR3 (.inl rfl) (.inr rfl)
  clear hR3 hg0
  refine wpIn_rangeFunc_ownF rfl (by omega) (gf := 54) (lb := #[.pointer (some ⟨w.heap.size + 1 + 1 + 1, 0, none⟩), .pointer (some ⟨w.heap.size + 1 + 1 + 1 + 1, 0, none⟩)]) rfl trivial (enters_of Try.func54 (by kernel_rfl) rfl)
    hseq Bt.KpS_t (Bt.KpS_b (fun k hk => by rcases hk with rfl | rfl <;> omega)) (Below.refl _ _) (fun _ => rfl)
    (NI w (.slice ao l c) G S) (fun _ _ _ => False) (by rw [zs]; exact NI_own w (.slice ao l c) G S) (fun _ => never_own _) ?start
    (fun x => { tmps := #[.int .i64 G, .int .i64 S, .slice ao l c, undef, undef, .pointer (some ⟨w.heap.size, 0, none⟩), .pointer (some ⟨w.heap.size + 1, 0, none⟩), .pointer (some ⟨w.heap.size + 1 + 1, 0, none⟩), .int .i64 (((0 + x) % G : Nat) : Int), .int .i64 G, .int .i64 S,
      .agg #[.int .i64 G, .int .i64 S, .slice none 0 0, .slice none 0 0, .slice none 0 0, .slice none 0 0, .slice none 0 0, .slice none 0 0, .slice none 0 0, .slice none 0 0], .int .i64 G, rdF (w.heap.size + 1 + 1 + 1), .int .i64 (((0 + x) % G : Nat) : Int), undef, undef, undef, undef, undef], defers := [] }) ?assign ?body ?done ?stop
  case start => exact ⟨z0, z1, z2, zb, by omega⟩
  case assign =>
    intro l x W K hK
    dsimp only [rdV]
    generalize (((0 + x) % G : Nat) : Int) = r at hK ⊢
    gi_wp2
    exact hK
  case body =>
    rintro lp pre x W ⟨h0, h1, h2, hB, hsz⟩ hlen
    have hG0 : 0 < G := by omega
    obtain ⟨k, hk⟩ : ∃ k, k = (0 + x) % G := ⟨_, rfl⟩
    have hkx : k = x % G := by rw [hk, Nat.zero_add]
    have hkG : k < G := by rw [hk]; exact Nat.mod_lt _ hG0
    rw [← hk]
    have hk8 : k < 8 := by omega
    have hkt : ((k : Int)).toNat = k := by simp
    have hk0 : (0 : Int) ≤ (k : Int) := by omega
    have hk8' : (k : Int) < 8 := by omega
    have c0 := blk_cell h0 0
    simp at c0
    obtain ⟨u, c1⟩ : ∃ u, W.cell? ⟨w.heap.size + 1 + 1, 2 + k, none⟩ = some u := by
      rw [blk_cell h2]
      exact ⟨_, Array.getElem?_eq_getElem (by simp [plL_length]; omega)⟩
    have c2 := blk_free h2 (2 + k)
    have HW := Hid.mk (And.intro h0 (And.intro h1 (And.intro h2 (And.intro hB hsz))))
    have HK := Hid.mk hkx
    have HK8 := Hid.mk hk8
    clear h0 h1 h2 hB hsz hk hkx hkG hk8 z0 z1 z2 zb zs hseq hG hlen
    gi_wp2
    obtain ⟨h0, h1, h2, hB, hsz⟩ := HW.out
    have hk := HK.out
    have hk8 := HK8.out
    refine ⟨KeepsOthers.setCell _ _ _, fun j hj => Below.heap_setCell _ _ _ _ (by show j ≠ w.heap.size + 1 + 1; rcases hj with rfl | rfl <;> omega), ?_, ?_, ?_, hB.setCell (p := ⟨w.heap.size + 1 + 1, 2 + k, none⟩) (by show w.heap.size ≤ w.heap.size + 1 + 1; omega) _, by simpa [World.setCell] using hsz⟩
    · rw [Below.heap_setCell _ _ _ _ (by show w.heap.size ≠ w.heap.size + 1 + 1; omega)]; exact h0
    · rw [Below.heap_setCell _ _ _ _ (by show w.heap.size + 1 ≠ w.heap.size + 1 + 1; omega)]; exact h1
    · rw [blk_set h2, hk, plL_step]
  case done =>
    rintro D ys W hD rfl ⟨h0, h1, h2, hB, hsz⟩ hK
    rw [plL_end] at h2
    have HW := Hid.mk (And.intro h1 (And.intro h2 (And.intro hB hsz)))
    have HD : Hid (w.heap.size + 5 ≤ D) := Hid.mk (by omega)
    obtain ⟨W1, hr1, hN1, hO1⟩ := store52_run (b := w.heap.size + 1) (l := zero10.toList) (m := plE (.slice ao l c) G S) h1 rfl rfl (plE_one _ _ _)
    have HL1 := Hid.mk (loadAt52 h2 rfl)
    have HR1 := Hid.mk hr1
    have HF : Hid (W1.heap[w.heap.size + 1]? = some (.cells (plE (.slice ao l c) G S).toArray 52 (0, 0)) ∧ Only (fun k => k = w.heap.size + 1) W W1) := Hid.mk ⟨hN1, hO1⟩
    obtain ⟨pv, hpv⟩ : ∃ pv, pv = (plE (.slice ao l c) G S).toArray := ⟨_, rfl⟩
    rw [← hpv] at HL1 HR1
    have HPV := Hid.mk hpv
    clear h0 h1 h2 hB hsz hG z0 z1 z2 zb zs hseq hr1 hN1 hO1 hpv
    gi_wp2_with (first
      | (refine wpLIn_loadP (.tmp 7) rfl rfl ⟨w.heap.size + 1 + 1, 0, none⟩ (.agg pv) rfl HL1.out ?_)
      | (refine wpLIn_storeP (.tmp 6) (.tmp 19) rfl rfl (.pointer (some ⟨w.heap.size + 1, 0, none⟩)) (.agg pv) W1 rfl rfl HR1.out ?_))
    obtain ⟨h1, h2, hB, hsz⟩ := HW.out
    obtain ⟨hN1, hO1⟩ := HF.out
    have hD := HD.out
    have hK1 : W1.heap[D]? = some (.deferred (some [])) := by
      rw [hO1.block D (Array.getElem?_eq_some_iff.1 hK).1 (by omega)]; exact hK
    refine ⟨by simp, .inl ⟨_, _, rfl, run_takeDeferred hK1, ?_⟩⟩
    refine ⟨.agg (plE (.slice ao l c) G S).toArray, ?_, rfl, ?_⟩
    · exact results_pool (a := 6) (b := w.heap.size + 1) rfl rfl ((World.putObj_heap_other (by omega)).trans hN1) rfl
    · exact (hB.trans (hO1.below (by omega) (fun k e => by omega))).trans (belowK_b (w := w) (Nat.le_refl _) W1 D _ _ (by omega) hK1 rfl rfl)
  case stop => rintro D c pre W hD _ h _; exact h.elim
end Go.Proofs.Ytjhfkcngaknbdaa
