/-
  A row of slots that grows; add.
-/
import Derived.Test.YtehaoeclnmelhacGreatLayT1
import Derived.Deep.Cut
import Derived.Deep.CutRange
namespace Go.Proofs.YtehaoeclnmelhacGreat
open Go Go.Proofs Go.RowKit Go.Shelf
open Go.ChangeMaps (setBlock heap_setBlock_same heap_setBlock_other)

theorem infoS : (Tryz.prog.info? 91).map (fun i => (i.zero, i.size, i.bytes)) = some (some (.agg #[.string ⟨#[]⟩, .pointer none]), 2, 24) := by kernel_rfl
theorem infoSp : ∃ i0, Tryz.prog.info? 91 = some i0 ∧ i0.zero = some (.agg #[.string ⟨#[]⟩, .pointer none]) ∧ i0.size = 2 ∧ i0.bytes = 24 := by
  obtain ⟨i0, hi, hz0, hz1, hz2⟩ := info_parts infoS
  exact ⟨i0, hi, hz0, hz1, hz2⟩
theorem zero_slots (loc : Nat → Nat) (k : Nat) : Builtin.zeroCells (Value.agg #[.string ⟨#[]⟩, .pointer none]).cells k = (slotCs loc (List.replicate k none)).toArray := by
  apply Array.ext'
  apply List.ext_getElem?
  intro i
  rcases Nat.lt_or_ge i (k * 2) with h | h
  · have e := slotCs_get loc (List.replicate k none) (i / 2) (i % 2) (by omega) (by simp; omega)
    rw [show i / 2 * 2 + i % 2 = i by omega] at e
    have e2 : (List.replicate k (none : Slt)).getD (i / 2) none = none := by simp [List.getD, List.getElem?_replicate]; split <;> rfl
    rw [e2] at e
    rw [e]
    rcases Nat.mod_two_eq_zero_or_one i with hm | hm <;> simp [Builtin.zeroCells, Value.cells, hm, slotC, strV, mkS, List.getElem?_range h]
  · rw [List.getElem?_eq_none (by simp [Builtin.zeroCells, Value.cells]; omega), List.getElem?_eq_none (by rw [List.toList_toArray, slotCs_length]; simp; omega)]
theorem slotCs_append (loc : Nat → Nat) (s t : List Slt) : slotCs loc (s ++ t) = slotCs loc s ++ slotCs loc t := by simp [slotCs]
set_option maxRecDepth 100000 in
theorem append_slots (w : World) (loc : Nat → Nat) (r c m : Nat) (s : List Slt) (hown : w.ownsRow 0 91 2 (.slice (some ⟨r, 0, none⟩) s.length c) s.length (slotCs loc s)) (hm : 0 < m) (hbig : s.length + m ≤ 33554432) :
    ∃ r' c' w', (Builtin.append_ #[58, 3] 58 #[.slice (some ⟨r, 0, none⟩) s.length c, .int .i64 m]).run Tryz.prog w = .ok (.slice (some ⟨r', 0, none⟩) (s.length + m) c') w' ∧ w'.ownsRow 0 91 2 (.slice (some ⟨r', 0, none⟩) (s.length + m) c') (s.length + m) (slotCs loc (s ++ List.replicate m none)) ∧ w.grownBy w' (some r) ∧ (r' = r ∨ (r' = w.heap.size ∧ w'.heap.size = w.heap.size + 1)) := by
  obtain ⟨i0, hi, hz0, hz1, hz2⟩ := infoSp
  obtain ⟨n, hn⟩ : ∃ n, s.length = n := ⟨_, rfl⟩
  have hlx : (slotCs loc s).length = n * 2 := by rw [slotCs_length, hn]
  rw [hn] at hown hbig ⊢
  have hzc := zero_slots loc
  have hone := slotCs_one loc (List.replicate m none)
  have hzl : (slotCs loc (List.replicate m none)).length = m * 2 := by rw [slotCs_length]; simp
  have happ := slotCs_append loc s (List.replicate m none)
  have hw : IntKind.i64.wrap (m : Int) = m := by rw [IntKind.wrap_i64]; omega
  have hneg : ¬ ((m : Int) < 0) := by omega
  have h48 : ¬ (281474976710656 < (m : Int) * 24) := by omega
  have hlen : (slotCs loc (s ++ List.replicate m none)).length = (n + m) * 2 := by rw [slotCs_length]; simp [hn]
  have has : ∀ w, (asInt (.int .i64 (m : Int))).run Tryz.prog w = .ok (m : Int) w := by intro w; simp [asInt, asIntOf]
  have h0 : ¬ (m * 2 = 0) := by omega
  rcases hown.2 with ⟨hx, _⟩ | ⟨g, cap, cur, hx, hbg, hg, hnc, hcm, hcs, htake⟩
  · cases hx
  · cases hx
    by_cases hroom : n + m ≤ c
    · have hst := run_storeCells_at Tryz.prog r (n * 2) 91 (slotCs loc (List.replicate m none)) 0 cur w hg (by rw [hzl]; omega) hone
      simp only [Nat.add_zero] at hst
      refine ⟨r, c, w.setRow r (cur.toList.take (n * 2) ++ slotCs loc (List.replicate m none) ++ cur.toList.drop (n * 2 + (slotCs loc (List.replicate m none)).length)).toArray, ?_, ?_, ?_, .inl rfl⟩
      · simp [Builtin.append_, run_underlying Tryz.underlying58, run_underlying Tryz.underlying3, sizeOf, typeInfo, hi, hz1, hz2, zeroValue, hz0, has, hw, hneg, h48, hroom, hzc, Addr.add_lit, hst, h0]
      · refine ⟨hlen, .inr ⟨r, c, _, rfl, hbg, setRow_heap w r cur _ 91 _ hg, hroom, hcm, ?_, ?_⟩⟩
        · simp only [List.size_toArray, List.length_append, List.length_take, List.length_drop, Array.length_toList, hzl]
          omega
        · rw [htake, ← happ, ← hlen]
          exact List.take_left
      · exact ⟨rfl, rfl, rfl, by simp, fun k _ hk => setRow_other w r k _ (fun e => hk (by rw [e]))⟩
    · refine ⟨w.heap.size, grownCap w (n + m) c 91, w.drew.alloc (.cells (slotCs loc s ++ slotCs loc (List.replicate m none) ++ slotCs loc (List.replicate (grownCap w (n + m) c 91 - (n + m)) none)).toArray 91), ?_, ?_, ?_, .inr ⟨rfl, by simp⟩⟩
      · have holds : ∀ j u, (slotCs loc s)[j]? = some u → w.cell? ((⟨r, 0, none⟩ : Addr).add j) = some u := hown.cells (g := r) rfl
        have hfo := run_firstCells_some (P := Tryz.prog) w.drew 2 n ⟨r, 0, none⟩ n c (slotCs loc s) (by rw [hlx]) (by simpa using holds)
        have h63' : ¬ (9223372036854775807 < ((n : Int) + (m : Int))) := by omega
        have hfit := growslice_fits (need := n + m) (old := c) (bytes := 24) (by omega) (by omega)
        have h48' : ¬ (281474976710656 < Builtin.nextslicecap (n + m) c * 24) := by omega
        simp [Builtin.append_, run_underlying Tryz.underlying58, run_underlying Tryz.underlying3, sizeOf, typeInfo, hi, hz1, hz2, zeroValue, hz0, has, hw, hneg, h48, hroom, hzc, h63', h48', Question.forced, hfo, newRow, grownCap, h0]
      · have hge := grownCap_ge w (n + m) c 91
        have hcm2 : grownCap w (n + m) c 91 ≤ maxLen := grownCap_le_maxLen w (n + m) c 91 (by unfold maxLen; omega)
        refine ⟨hlen, .inr ⟨w.heap.size, _, _, rfl, Nat.zero_le _, heap_alloc_new w.drew _, hge, hcm2, ?_, ?_⟩⟩
        · simp only [List.size_toArray, List.length_append, slotCs_length, List.length_replicate, hn]
          omega
        · rw [← happ, ← hlen]
          exact List.take_left
      · exact ⟨rfl, rfl, rfl, by simp, fun k hk _ => Below.heap_alloc w.drew _ k hk⟩
theorem wpL_append_int {P : Program} {w w' : World} {ops : Array Oper} {rest : List Oper} {o : Oper} {a : Act} {Q : Exit → Act → World → Prop} (hgd : o.guard = none) (s x : Operand) (t u : TypeId) (ho : o.op = .call { callee := .builtin .append, args := #[s, x], argTypes := #[t, u] }) (v vx v' : Value) (hs : a.eval s = v) (hx : a.eval x = vx)
    (hrun : (Builtin.append_ #[t, u] o.type #[v, vx]).run P w = .ok v' w') (h : wpList P ops Q rest (a.put o.dst v') w') : wpList P ops Q (o :: rest) a w := by
  refine wpList_plain hgd fun K' hK' => ?_
  unfold Oper.wp execOp
  simp only [ho, resolve, invoke, builtin, Sem.run_bind, Sem.run_pure, Result.andThen_ok, List.map_toArray, List.map_cons, List.map_nil, hs, hx, hrun]
  exact hK' _ _ h
theorem free_get {s : List Slt} (hf : freeAt s < s.length) : s.getD (freeAt s) none = none := by
  have h2 := List.findIdx_getElem (p := fun o : Slt => o.isNone) (xs := s) (w := hf)
  have e : s.getD (freeAt s) none = s[freeAt s] := by simp [List.getD, List.getElem?_eq_getElem hf]
  rw [e]
  exact Option.isNone_iff_eq_none.1 h2
/-- The store of a slot and of its place. -/
theorem add_fin {w : World} {loc : Nat → Nat} {b m r c : Nat} {l z : Int} {s : List Slt} (h : DrAt w loc b m r c l z s) (hd : [b, m, r].Nodup) (p : List UInt8) (hp : p.length ≤ 1000) (hno : ¬ nameAt s p < s.length) {k : Nat} (hk : k < s.length) (hf : s.getD k none = none) (hn : s.length ≤ 33554432) (j : Nat) :
    ((w.setCell ⟨r, k * 2, none⟩ (strV p)).setCell ⟨r, k * 2 + 1, none⟩ (ptrV (loc j))).cell? ⟨b, 5, none⟩ = some (.map (some m)) ∧
    ∃ o, (Instr.mapUpdate 59 (.map (some m)) (strV p) (.int .i64 (k : Nat))).run Tryz.prog ((w.setCell ⟨r, k * 2, none⟩ (strV p)).setCell ⟨r, k * 2 + 1, none⟩ (ptrV (loc j))) = .ok () (setBlock ((w.setCell ⟨r, k * 2, none⟩ (strV p)).setCell ⟨r, k * 2 + 1, none⟩ (ptrV (loc j))) m o) ∧
      DrAt (setBlock ((w.setCell ⟨r, k * 2, none⟩ (strV p)).setCell ⟨r, k * 2 + 1, none⟩ (ptrV (loc j))) m o) loc b m r c l z (s.set k (some (j, p))) ∧ Only (fun q => q = m ∨ q = r) w (setBlock ((w.setCell ⟨r, k * 2, none⟩ (strV p)).setCell ⟨r, k * 2 + 1, none⟩ (ptrV (loc j))) m o) := by
  obtain ⟨d1, d2, d3⟩ : b ≠ m ∧ b ≠ r ∧ m ≠ r := by simp at hd; exact ⟨hd.1.1, hd.1.2, hd.2⟩
  have hrow : ((w.setCell ⟨r, k * 2, none⟩ (strV p)).setCell ⟨r, k * 2 + 1, none⟩ (ptrV (loc j))).ownsRow 0 91 2 (.slice (some ⟨r, 0, none⟩) s.length c) s.length (slotCs loc (s.set k (some (j, p)))) := by
    rw [slotCs_set _ _ _ _ hk]
    exact row_set (row_set h.row _ _) _ _
  have ho : Only (fun q => q = m ∨ q = r) w ((w.setCell ⟨r, k * 2, none⟩ (strV p)).setCell ⟨r, k * 2 + 1, none⟩ (ptrV (loc j))) := ((Only.refl _ w).setCell (p := ⟨r, k * 2, none⟩) (.inl (.inr rfl)) _).setCell (p := ⟨r, k * 2 + 1, none⟩) (.inl (.inr rfl)) _
  have hk1 : ∀ q, q ≠ r → ((w.setCell ⟨r, k * 2, none⟩ (strV p)).setCell ⟨r, k * 2 + 1, none⟩ (ptrV (loc j))).heap[q]? = w.heap[q]? := fun q hq => by
    rw [Below.heap_setCell _ _ _ _ hq, Below.heap_setCell _ _ _ _ hq]
  generalize (w.setCell ⟨r, k * 2, none⟩ (strV p)).setCell ⟨r, k * 2 + 1, none⟩ (ptrV (loc j)) = W at *
  have hnode := (hk1 b d2).trans h.node
  refine ⟨by rw [blk_cell hnode]; rfl, ?_⟩
  have hu0 : usedN s < maxLen := by have := List.length_filter_le (fun o : Slt => o.isSome) s; unfold usedN maxLen; omega
  obtain ⟨o, hr, hm⟩ := (h.places.kept (hk1 m d3)).put keyed9 Tryz.underlying59 hu0 (key_str hp) (val := .int .i64 (k : Nat))
  refine ⟨o, hr, ⟨by rw [heap_set_other d1]; simpa using hnode, owns_at (by simpa using hrow) (fun q e => by cases e; exact heap_set_other (fun e => d3 e.symm)), ?_, names_add h.names hno hp k j⟩, ho.setBlock (.inl (.inl rfl)) _⟩
  have hu := used_set s k (some (j, p)) hk
  rw [hf] at hu
  have hp0 : plF s (.string p) = none := by simp [plF, hno]
  rw [hp0] at hm
  simp at hu hm
  rw [hu]
  exact hm.names (fun q => pf_add h.names hno hp hk hf j q)
set_option maxRecDepth 100000 in
set_option maxHeartbeats 4000000 in
theorem add_room (w : World) (loc : Nat → Nat) (b m r c : Nat) (l z : Int) (s : List Slt) (h : DrAt w loc b m r c l z s) (hd : [b, m, r].Nodup) (hn : s.length ≤ 16777216) (p : List UInt8) (hp : p.length ≤ 1000) (hno : ¬ nameAt s p < s.length) (hf : freeAt s < s.length) (j : Nat) :
    Calls Tryz.prog 40 #[ptrV b, strV p, ptrV (loc j)] w fun e w' => e = .returned (.tuple #[]) ∧ DrAt w' loc b m r c l z (s.set (freeAt s) (some (j, p))) ∧ Only (fun k => k = m ∨ k = r) w w' := by
  have HF := Hid.mk (free_any w loc b m r c l z s h hn)
  have HH := Hid.mk h
  have HLT := Hid.mk hf
  have hne : ¬ ((freeAt s : Nat) : Int) = (s.length : Nat) := by omega
  have hb : (freeAt s : Int) < (s.length : Int) := by omega
  have HADD : Hid (∀ W1, DrAt W1 loc b m r c l z s → _) := Hid.mk (fun W1 (h1 : DrAt W1 loc b m r c l z s) => add_fin h1 hd p hp hno hf (free_get hf) (by omega) j)
  generalize hk : freeAt s = k at *
  clear h hd hp hno hf hn hk
  unfold ptrV strV at *
  go_enter Tryz.func40, Tryz.ntmps40
  go_wp2_with (go_at_call 57; refine HF.out.mono ?_; rintro e W1 ⟨rfl, hB⟩; have hd1 := HH.out.below hB; have e4 := blk_cell hd1.node 4; have e5 := blk_cell hd1.node 5; obtain ⟨c0, c1, f0, f1⟩ := hd1.slot k HLT.out; simp at e4 e5; obtain ⟨e5', o, hput, hfin⟩ := HADD.out W1 hd1; have HFIN := Hid.mk hfin; have HB := Hid.mk hB; clear hB hd1 hfin)
  go_end0
  exact ⟨rfl, HFIN.out.1, (Only.of_new _ HB.out).trans HFIN.out.2 (fun i hi => .inl hi)⟩
set_option maxRecDepth 100000 in
set_option maxHeartbeats 4000000 in
theorem add_grow (w : World) (loc : Nat → Nat) (b m r c : Nat) (l z : Int) (s : List Slt) (h : DrAt w loc b m r c l z s) (hd : [b, m, r].Nodup) (hn : s.length ≤ 16777216) (p : List UInt8) (hp : p.length ≤ 1000) (hno : ¬ nameAt s p < s.length) (hf : freeAt s = s.length) (j : Nat) :
    Calls Tryz.prog 40 #[ptrV b, strV p, ptrV (loc j)] w fun e w' => e = .returned (.tuple #[]) ∧ ∃ r' c', DrAt w' loc b m r' c' l (w64 (z + 1024)) ((s ++ List.replicate 32 none).set s.length (some (j, p))) ∧ Only (fun k => k = b ∨ k = m ∨ k = r) w w' ∧ (r' = r ∨ (w.heap.size ≤ r' ∧ r' < w'.heap.size)) := by
  have HF := Hid.mk (free_any w loc b m r c l z s h hn)
  have HH := Hid.mk h
  rw [hf] at HF
  have HAP : Hid (∀ W1, DrAt W1 loc b m r c l z s → ∃ r' c' W2, (Builtin.append_ #[58, 3] 58 #[.slice (some ⟨r, 0, none⟩) s.length c, .int .i64 32]).run Tryz.prog W1 = .ok (.slice (some ⟨r', 0, none⟩) (s.length + 32) c') W2 ∧ W2.cell? ⟨b, 2, none⟩ = some (.int .i64 z) ∧ W2.cell? ⟨b, 4, none⟩ = some (.slice (some ⟨r, 0, none⟩) s.length c) ∧ W2.frozen? ⟨b, 2, none⟩ = false ∧ W2.frozen? ⟨b, 4, none⟩ = false ∧ b ≠ r' ∧
      ∀ W3, W3 = (W2.setCell ⟨b, 4, none⟩ (.slice (some ⟨r', 0, none⟩) (s.length + 32) c')).setCell ⟨b, 2, none⟩ (.int .i64 (wrap64 (z + 1024))) → W3.cell? ⟨b, 4, none⟩ = some (.slice (some ⟨r', 0, none⟩) (s.length + 32) c') ∧ W3.cell? ⟨r', s.length * 2, none⟩ = some (strV []) ∧ W3.cell? ⟨r', s.length * 2 + 1, none⟩ = some (.pointer none) ∧ W3.frozen? ⟨r', s.length * 2, none⟩ = false ∧ W3.frozen? ⟨r', s.length * 2 + 1, none⟩ = false ∧
        ((W3.setCell ⟨r', s.length * 2, none⟩ (strV p)).setCell ⟨r', s.length * 2 + 1, none⟩ (ptrV (loc j))).cell? ⟨b, 5, none⟩ = some (.map (some m)) ∧ ∃ W4, (Instr.mapUpdate 59 (.map (some m)) (strV p) (.int .i64 (s.length : Nat))).run Tryz.prog ((W3.setCell ⟨r', s.length * 2, none⟩ (strV p)).setCell ⟨r', s.length * 2 + 1, none⟩ (ptrV (loc j))) = .ok () W4 ∧
          DrAt W4 loc b m r' c' l (w64 (z + 1024)) ((s ++ List.replicate 32 none).set s.length (some (j, p))) ∧ Only (fun k => k = b ∨ k = m ∨ k = r) W1 W4 ∧ (r' = r ∨ (W1.heap.size ≤ r' ∧ r' < W4.heap.size))) := Hid.mk (fun W1 h1 => by
    obtain ⟨r', c', W2, hr, hown, hg, hr'⟩ := append_slots W1 loc r c 32 s h1.row (by omega) (by omega)
    obtain ⟨d1, d2, d3⟩ : b ≠ m ∧ b ≠ r ∧ m ≠ r := by simp at hd; exact ⟨hd.1.1, hd.1.2, hd.2⟩
    have hbl := lt_of_block h1.node
    have hml := h1.places.lt
    have n2 : W2.heap[b]? = W1.heap[b]? := hg.block b hbl (fun e => d2 (by cases e; rfl))
    have m2 : W2.heap[m]? = W1.heap[m]? := hg.block m hml (fun e => d3 (by cases e; rfl))
    have hbr : b ≠ r' := by rcases hr' with rfl | ⟨rfl, _⟩ <;> omega
    have hmr : m ≠ r' := by rcases hr' with rfl | ⟨rfl, _⟩ <;> omega
    have hn2 := n2.trans h1.node
    refine ⟨r', c', W2, hr, by rw [blk_cell hn2]; rfl, by rw [blk_cell hn2]; rfl, blk_free hn2 _, blk_free hn2 _, hbr, ?_⟩
    intro W3 hW3
    have hn3 : W3.heap[b]? = some (.cells #[.int .i64 2, .int .i64 l, .int .i64 (w64 (z + 1024)), .map none, .slice (some ⟨r', 0, none⟩) (s.length + 32) c', .map (some m)] 62 (0, 0)) := by
      rw [hW3, blk_set (blk_set hn2)]
      rfl
    have hk3 : ∀ q, q ≠ b → W3.heap[q]? = W2.heap[q]? := fun q hq => by rw [hW3, Below.heap_setCell _ _ _ _ hq, Below.heap_setCell _ _ _ _ hq]
    have hlen : (s ++ List.replicate 32 (none : Slt)).length = s.length + 32 := by simp
    have h3 : DrAt W3 loc b m r' c' l (w64 (z + 1024)) (s ++ List.replicate 32 none) := ⟨by rw [hlen]; exact hn3, by rw [hlen]; exact owns_at hown (fun q e => by cases e; exact hk3 _ (fun e => hbr e.symm)), by
      rw [used_more]
      exact (h1.places.kept ((hk3 m (fun e => d1 e.symm)).trans m2)).names (fun q => (pf_more h1.names 32 q).symm), names_more h1.names 32⟩
    have hg0 : (s ++ List.replicate 32 (none : Slt)).getD s.length none = none := by simp [List.getD]
    have hlt : s.length < (s ++ List.replicate 32 (none : Slt)).length := by omega
    obtain ⟨q0, q1, q2, q3⟩ := h3.slot s.length hlt
    rw [hg0] at q0 q1
    obtain ⟨a1, o, a2, a3, a4⟩ := add_fin h3 (by simp; exact ⟨⟨d1, hbr⟩, hmr⟩) p hp (name_more 32 hno) hlt hg0 (by omega) j
    refine ⟨by rw [blk_cell hn3]; rfl, q0, q1, q2, q3, a1, _, a2, a3, ?_, ?_⟩
    · have o2 : Only (fun k => k = b ∨ k = m ∨ k = r) W1 W3 := by
        rw [hW3]
        exact (((Only.refl _ W1).grown hg (fun k e => by cases e; exact .inl (.inr (.inr rfl)))).setCell (p := ⟨b, 4, none⟩) (.inl (.inl rfl)) _).setCell (p := ⟨b, 2, none⟩) (.inl (.inl rfl)) _
      refine o2.trans a4 (fun i hi => ?_)
      rcases hi with rfl | rfl
      · exact .inl (.inr (.inl rfl))
      · rcases hr' with rfl | ⟨rfl, _⟩
        · exact .inl (.inr (.inr rfl))
        · exact .inr (Nat.le_refl _)
    · rcases hr' with rfl | ⟨rfl, h2⟩
      · exact .inl rfl
      · refine .inr ⟨Nat.le_refl _, Nat.lt_of_lt_of_le ?_ a4.size⟩
        rw [hW3]
        simp [World.setCell]
        omega)
  clear h hd hp hno hn hf
  unfold ptrV strV at *
  go_enter Tryz.func40, Tryz.ntmps40
  go_upto_region 4 with (first
    | (go_at_call 57; refine HF.out.mono ?_; rintro e W1 ⟨rfl, hB⟩; have hd1 := HH.out.below hB; have e4 := blk_cell hd1.node 4; simp at e4; obtain ⟨r', c', W2, hap, e2, e4', f2, f4, hbr, hrest⟩ := HAP.out W1 hd1; have HAR := Hid.mk hap; have HRE := Hid.mk hrest; have HB := Hid.mk hB; clear hB hd1 hap hrest)
    | (at_builtin; have hx := HAR.out; refine wpL_append_int rfl _ _ _ _ rfl _ _ _ rfl rfl hx ?_; simp only [Act.put, List.setIfInBounds_toArray, List.set_cons_zero, List.set_cons_succ]; clear e4 hx))
  generalize hW3 : World.setCell (World.setCell W2 _ _) _ _ = W3
  obtain ⟨g1, g2, g3, g4, g5, g6, W4, hput, hfin⟩ := HRE.out W3 hW3.symm
  have HFIN := Hid.mk hfin
  have hbi : (s.length : Int) < ((s.length + 32 : Nat) : Int) := by omega
  clear hfin HRE HAP HAR hW3 e2 e4' f2 f4 HF
  go_wp2
  go_end0
  obtain ⟨h1, h2, h3⟩ := HFIN.out
  refine ⟨rfl, _, _, h1, (Only.of_new _ HB.out).trans h2 (fun i hi => .inl hi), ?_⟩
  have := HB.out.size
  rcases h3 with h3 | h3
  · exact .inl h3
  · exact .inr ⟨by omega, h3.2⟩
end Go.Proofs.YtehaoeclnmelhacGreat
