/-
  Two changes of a heap's row change places: Swap of pile.
-/
import Derived.Test.YtjljklfahmjngaaPaPush
namespace Go.Proofs.Ytjljklfahmjngaa
open Go Go.Proofs Go.RowKit Go.Shelf
attribute [local go_sem] Oper.semAt_some
theorem Sy_take (H : List (Int × Pt)) : ∀ k, Sy (H.take k) = (Sy H).take (k * 4) := by
  induction H with
  | nil => intro k; simp [Sy]
  | cons s H ih =>
    intro k
    cases k with
    | zero => rfl
    | succ k => rw [List.take_succ_cons, Sy_cons, Sy_cons, ih k, show (k + 1) * 4 = k * 4 + 1 + 1 + 1 + 1 by omega]; simp
theorem Sy_drop (H : List (Int × Pt)) : ∀ k, Sy (H.drop k) = (Sy H).drop (k * 4) := by
  induction H with
  | nil => intro k; simp [Sy]
  | cons s H ih =>
    intro k
    cases k with
    | zero => rfl
    | succ k => rw [List.drop_succ_cons, Sy_cons, ih k, show (k + 1) * 4 = k * 4 + 1 + 1 + 1 + 1 by omega]; simp
theorem Sy_set (H : List (Int × Pt)) (k : Nat) (s : Int × Pt) (hk : k < H.length) : Sy (H.set k s) = (Sy H).take (k * 4) ++ spC s ++ (Sy H).drop (k * 4 + 4) := by
  rw [List.set_eq_take_append_cons_drop, if_pos hk, Sy_append, Sy_take, show s :: H.drop (k + 1) = [s] ++ H.drop (k + 1) from rfl, Sy_append, Sy_drop, show (k + 1) * 4 = k * 4 + 4 by omega, List.append_assoc]
  rw [show Sy [s] = spC s by simp [Sy, spC]]
theorem size56 : (Try.prog.info? 56).map (·.size) = some 4 := by kernel_rfl
theorem exec_put56 {ev : Operand → Value} {oi : Oper} {p x : Operand} {W : World} {base g n cap k : Nat} {H : List (Int × Pt)} {s : Int × Pt} (ho : oi.op = .store 56 p x) (hp : ev p = .pointer (some ⟨g, k * 4, none⟩)) (hx : ev x = spV s) (h : W.ownsRow base 56 4 (.slice (some ⟨g, 0, none⟩) n cap) n (Sy H)) (hk : k < n) :
    ∃ W', (execOp ev oi).run Try.prog W = .ok .skip W' ∧ W'.ownsRow base 56 4 (.slice (some ⟨g, 0, none⟩) n cap) n (Sy (H.set k s)) ∧ Only (fun j => j = g) W W' := by
  have hl := h.1
  rw [Sy_length] at hl
  rcases h.2 with ⟨e, -⟩ | ⟨g', cap', cur, e, hg, hh, hnc, hm, hsz, ht⟩
  · cases e
  cases e
  have hr := run_storeCells_at (P := Try.prog) g (k * 4) 56 (spC s) 0 cur W hh (by simp [spC, Pt.cs, paC]; omega) (spC_one s)
  rw [Nat.add_zero, show (spC s).length = 4 from rfl] at hr
  refine ⟨W.setRow g (cur.toList.take (k * 4) ++ spC s ++ cur.toList.drop (k * 4 + 4)).toArray, ?_, ⟨by rw [Sy_length, List.length_set]; omega, .inr ⟨g, cap, _, rfl, hg, setRow_heap W g cur _ 56 (0, 0) hh, hnc, hm, ?_, ?_⟩⟩, (Only.refl (fun j => j = g) W).setRow (.inl rfl) _⟩
  · obtain ⟨i0, hi, hz0, hz1, hz2⟩ := info56p
    unfold execOp
    have hl4 : (spC s).length = 4 := rfl
    have hx' : ev x = .agg (spC s).toArray := hx
    simp only [ho, hp, hx', Instr.storeAt, Instr.sureAddr, Sem.run_bind, Sem.run_pure, Result.andThen_ok]
    simp [storeVar, sizeOf, typeInfo, hi, hz1, Value.cells, hr, hl4]
  · simp only [List.size_toArray, List.length_append, List.length_take, List.length_drop, Array.length_toList, show (spC s).length = 4 from rfl]
    omega
  · show List.take (n * 4) (cur.toList.take (k * 4) ++ spC s ++ cur.toList.drop (k * 4 + 4)) = _
    rw [Sy_set H k s (by omega), ← ht, List.take_take, Nat.min_eq_left (by omega), List.drop_take]
    have hc : (List.take (k * 4) cur.toList).length = k * 4 := by rw [List.length_take, Array.length_toList]; omega
    rw [List.take_append, List.take_of_length_le (l := List.take (k * 4) cur.toList ++ spC s) (by rw [List.length_append, hc, show (spC s).length = 4 from rfl]; omega)]
    congr 2
    rw [List.length_append, hc, show (spC s).length = 4 from rfl]
/-! A region that draws its order with two stores: S stands as long as L has not come up. -/
section
variable {P : Program} {ops : Array Oper} {Q : Exit → Act → World → Prop} {md : Region.Mode} {S : World → Prop} {L : Nat}
def Butu (P : Program) (md : Region.Mode) (ops : Array Oper) (Q : Exit → Act → World → Prop) (S : World → Prop) (L : Nat) : Nat → Array Bool → Act → World → Prop
  | 0, listed, a, w => Region.ready md ops listed = [] ∧ Q .normal a w
  | n + 1, listed, a, w => (Region.ready md ops listed = [] → Q .normal a w) ∧ ∀ i ∈ Region.ready md ops listed, wpOp P ops Q i (fun a' w' => (i ≠ L → listed.getD L true = false → S w') ∧ Butu P md ops Q S L n (listed.setIfInBounds i true) a' w') a w
theorem butt_of_butu (K : Nat) : ∀ (n : Nat) (listed : Array Bool) (a : Act) (w : World), Butu P md ops Q S L n listed a w → Butt P md ops Q (fun _ => True) K n listed a w
  | 0, _, _, _, h => h
  | n + 1, _, _, _, h => ⟨h.1, fun i hi => wpOp_mono (fun a' w' h' => ⟨fun _ => trivial, butt_of_butu K n _ a' w' h'.2⟩) (h.2 i hi)⟩
theorem butu_first {i : Nat} {oi : Oper} {v : Value} (hi : ops[i]? = some oi) (hsel : ∀ (j : Nat) (o : Oper) cs b, ops[j]? = some o → o.op ≠ .select cs b) (hw : waitsB md ops L i = true)
    (hQ : ∀ c a w, Q (.panic c) (a.put oi.dst v) w → Q (.panic c) a w) (n : Nat) : ∀ (listed : Array Bool) (a : Act) (w : World), listed.getD L true = false →
      (∀ j oj, ops[j]? = some oj → j ≠ i → listed.getD j true = false → (∀ e ∈ oj.after, Region.binds md e = true → e.on ≠ i) → oi.apart ops oj = true) →
      i ∈ Region.ready md ops listed → YieldsIf P ops S oi v a → S w → Butu P md ops Q S L n (listed.setIfInBounds i true) (a.put oi.dst v) w → Butu P md ops Q S L (n + 1) listed a w := by
  induction n with
  | zero =>
    intro listed a w _ _ hr hy hS H
    refine ⟨fun h => (by rw [h] at hr; cases hr), fun j hj => ?_⟩
    by_cases e : j = i
    · subst e
      exact hy.wpOp hi hS ⟨fun _ _ => hS, H⟩
    · have := ready_mono hj e
      rw [H.1] at this
      cases this
  | succ n ih =>
    intro listed a w hL hf hr hy hS H
    refine ⟨fun h => (by rw [h] at hr; cases hr), fun j hj => ?_⟩
    by_cases e : j = i
    · subst e
      exact hy.wpOp hi hS ⟨fun _ _ => hS, H⟩
    · have hjL := ready_not hr hj hw
      have hiL := ready_not hr hr hw
      have hLi : (listed.setIfInBounds i true).getD L true = false := by rw [getD_set_ne true hiL]; exact hL
      obtain ⟨hun, oj, hoj, -⟩ := mem_ready.1 hj
      have h2 := wpOp_putIf hoj (hf j oj hoj e hun (not_ready hr hj hoj)) (fun cs b => hsel i oi cs b hi) (fun cs b => hsel j oj cs b hoj) hQ hy (H.2 j (ready_mono hj e))
      refine wpOp_mono (fun a' w' h3 => ⟨fun _ _ => h3.2.1 hjL hLi, ih (listed.setIfInBounds j true) a' w' (by rw [getD_set_ne true hjL]; exact hL) (fun k ok hk hki hkn hno => hf k ok hk hki ?_ hno) (ready_mono hr (Ne.symm e)) h3.1 (h3.2.1 hjL hLi) ?_⟩) h2
      · by_cases hjk : j = k
        · subst hjk; exact hun
        · rw [getD_set_ne true hjk] at hkn; exact hkn
      · rw [Array.setIfInBounds_comm _ _ e]
        exact h3.2.2
variable {fuel : Nat} {listed : Array Bool} {t : Array Value} {w : World}
theorem takeU (i d : Nat) (v : Value) {oi : Oper} (hi : ops[i]? = some oi) (hd : oi.dst = some d) (hs : Region.noSelect ops = true) (hf : Region.free md ops listed i = true) (hr : (Region.ready md ops listed).contains i = true)
    (hl : waitsB md ops L i = true) (hL : listed.getD L true = false) (hQ : ∀ c a w, Q (.panic c) (a.put oi.dst v) w → Q (.panic c) a w) (hw : Region.wanted oi (yielded ops t) = true) (hrun : ∀ w, S w → (execOp (Act.eval { tmps := t, defers := [] }) oi).run P w = .ok (.value v) w) (hS : S w)
    (h : Butu P md ops Q S L fuel (listed.setIfInBounds i true) { tmps := t.setIfInBounds d v, defers := [] } w) : Butu P md ops Q S L (fuel + 1) listed { tmps := t, defers := [] } w := by
  refine butu_first hi (Region.noSelect_spec hs) hl hQ fuel listed _ w hL (Region.free_spec hi hf) (by simpa using hr) (.inl ⟨hw, hrun⟩) hS ?_
  rw [show (Act.put { tmps := t, defers := [] } oi.dst v) = { tmps := t.setIfInBounds d v, defers := [] } from by simp [Act.put, hd]]
  exact h
/-- Behind L: the one that may come up, with a slot. -/
theorem stepU_run (i d : Nat) (v : Value) (w' : World) {oi : Oper} (hi : ops[i]? = some oi) (hd : oi.dst = some d) (hr : Region.ready md ops listed = [i]) (hw : Region.wanted oi (yielded ops t) = true)
    (hrun : (execOp (Act.eval { tmps := t, defers := [] }) oi).run P w = .ok (.value v) w') (hL : listed.getD L true = true)
    (h : Butu P md ops Q S L fuel (listed.setIfInBounds i true) { tmps := t.setIfInBounds d v, defers := [] } w') : Butu P md ops Q S L (fuel + 1) listed { tmps := t, defers := [] } w := by
  refine ⟨fun h0 => (by rw [hr] at h0; cases h0), fun j hj => ?_⟩
  rw [hr] at hj
  obtain rfl : j = i := by simpa using hj
  unfold wpOp
  rw [hi]
  dsimp only
  rw [if_pos hw]
  left
  unfold Oper.wp
  rw [hrun, Oper.upon_value, show (Act.put { tmps := t, defers := [] } oi.dst v) = { tmps := t.setIfInBounds d v, defers := [] } from by simp [Act.put, hd]]
  exact ⟨fun _ h0 => (by rw [hL] at h0; cases h0), h⟩
/-- L itself, or a store behind it. -/
theorem stepU_skip (i : Nat) (w' : World) {oi : Oper} (hi : ops[i]? = some oi) (hd : oi.dst = none) (hr : Region.ready md ops listed = [i]) (hw : Region.wanted oi (yielded ops t) = true)
    (hrun : (execOp (Act.eval { tmps := t, defers := [] }) oi).run P w = .ok .skip w') (hL : i = L ∨ listed.getD L true = true)
    (h : Butu P md ops Q S L fuel (listed.setIfInBounds i true) { tmps := t, defers := [] } w') : Butu P md ops Q S L (fuel + 1) listed { tmps := t, defers := [] } w := by
  refine ⟨fun h0 => (by rw [hr] at h0; cases h0), fun j hj => ?_⟩
  rw [hr] at hj
  obtain rfl : j = i := by simpa using hj
  unfold wpOp
  rw [hi]
  dsimp only
  rw [if_pos hw]
  left
  unfold Oper.wp
  rw [hrun, Oper.upon_skip, show (Act.put { tmps := t, defers := [] } oi.dst undef) = { tmps := t, defers := [] } from by simp [Act.put, hd]]
  refine ⟨fun e h0 => ?_, h⟩
  rcases hL with h1 | h1
  · exact absurd h1 e
  · rw [h1] at h0; cases h0
theorem endU (hr : Region.ready md ops listed = []) {a : Act} (h : Q .normal a w) : Butu P md ops Q S L fuel listed a w := by
  cases fuel with
  | zero => exact ⟨hr, h⟩
  | succ m => exact ⟨fun _ => h, by rw [hr]; simp⟩
end
theorem exec_index56 {ev : Operand → Value} {oi : Oper} {x i : Operand} {g m cap k : Nat} {W : World} (ho : oi.op = .indexAddr 47 x i) (hx : ev x = .slice (some ⟨g, 0, none⟩) m cap) (hi : ev i = .int .i64 k) (hk : k < m) : (execOp ev oi).run Try.prog W = .ok (.value (.pointer (some ⟨g, k * 4, none⟩))) W := by
  have h1 : (k : Int) < (m : Int) := by omega
  have e : (⟨g, 0, none⟩ : Addr).add (k * 4) = ⟨g, k * 4, none⟩ := by rw [add_at]; simp
  unfold execOp
  rw [ho]
  simp only [hx, hi]
  go_simp
theorem exec_load56 {ev : Operand → Value} {oi : Oper} {x : Operand} {g o : Nat} {s : Int × Pt} {W : World} (ho : oi.op = .load 56 x) (hx : ev x = .pointer (some ⟨g, o, none⟩)) (c0 : W.cell? ⟨g, o, none⟩ = some (.int .i64 s.1)) (c1 : W.cell? ⟨g, o + 1, none⟩ = some (.int .i64 s.2.id)) (c2 : W.cell? ⟨g, o + 2, none⟩ = some (.int .i64 s.2.at')) (c3 : W.cell? ⟨g, o + 3, none⟩ = some s.2.val) : (execOp ev oi).run Try.prog W = .ok (.value (spV s)) W := by
  have c3' : W.cell? ⟨g, o + 3, none⟩ = some (.slice s.2.ao s.2.n s.2.c) := c3
  clear c3
  unfold execOp spV
  simp only [ho, hx]
  go_simp
set_option maxRecDepth 100000 in
set_option maxHeartbeats 2000000 in
theorem swap_any (w : World) (base g n cap : Nat) (H : List (Int × Pt)) (i j : Nat) (h : w.ownsRow base 56 4 (.slice (some ⟨g, 0, none⟩) n cap) n (Sy H)) (hi : i < n) (hj : j < n) :
    Calls Try.prog 78 #[.slice (some ⟨g, 0, none⟩) n cap, .int .i64 i, .int .i64 j] w fun e w' => (∃ u, e = .returned u) ∧ Hid (w'.ownsRow base 56 4 (.slice (some ⟨g, 0, none⟩) n cap) n (Sy ((H.set i (H.getD j noS)).set j (H.getD i noS))) ∧ Only (fun k => k = g) w w') := by
  obtain ⟨g', cap', e, hg1, hglt, hlen, hc⟩ := owns_spots h (by omega)
  cases e
  have hd : w.drew.ownsRow base 56 4 (.slice (some ⟨g, 0, none⟩) n cap) n (Sy H) := h
  have hS : w.drew.ownsRow base 56 4 (.slice (some ⟨g, 0, none⟩) n cap) n (Sy H) := h
  have HLD : Hid (∀ (W : World), W.ownsRow base 56 4 (.slice (some ⟨g, 0, none⟩) n cap) n (Sy H) → ∀ k, k < n → W.cell? ⟨g, k * 4, none⟩ = some (.int .i64 (H.getD k noS).1) ∧ W.cell? ⟨g, k * 4 + 1, none⟩ = some (.int .i64 (H.getD k noS).2.id) ∧ W.cell? ⟨g, k * 4 + 2, none⟩ = some (.int .i64 (H.getD k noS).2.at') ∧ W.cell? ⟨g, k * 4 + 3, none⟩ = some (H.getD k noS).2.val) := Hid.mk (fun W hW => by
    obtain ⟨g2, c2, e2, -, -, -, h2⟩ := owns_spots hW (by omega)
    cases e2
    exact h2)
  have HST : Hid (∀ (W : World) (K : List (Int × Pt)) (k : Nat) (s : Int × Pt), W.ownsRow base 56 4 (.slice (some ⟨g, 0, none⟩) n cap) n (Sy K) → k < n → True) := Hid.mk (fun _ _ _ _ _ _ => trivial)
  clear HST hc
  go_enter Try.func78, Try.ntmps78
  go_wp2
  refine wp_region_but 15 (fun _ => True) (by kernel_rfl) trivial (fun hT => ?_)
  refine takeL 0 6 (.slice (some ⟨g, 0, none⟩) n cap) rfl (by kernel_rfl) (by kernel_rfl) (by kernel_rfl) (by kernel_rfl) (by kernel_rfl) (fun _ _ _ h => h) (by kernel_rfl) (fun w _ => by kernel_rfl) hT ?_
  simp only [List.setIfInBounds_toArray, List.set_cons_zero, List.set_cons_succ]
  refine takeL 1 7 (.int .i64 i) rfl (by kernel_rfl) (by kernel_rfl) (by kernel_rfl) (by kernel_rfl) (by kernel_rfl) (fun _ _ _ h => h) (by kernel_rfl) (fun w _ => by kernel_rfl) hT ?_
  simp only [List.setIfInBounds_toArray, List.set_cons_zero, List.set_cons_succ]
  refine takeL 2 8 (.slice (some ⟨g, 0, none⟩) n cap) rfl (by kernel_rfl) (by kernel_rfl) (by kernel_rfl) (by kernel_rfl) (by kernel_rfl) (fun _ _ _ h => h) (by kernel_rfl) (fun w _ => by kernel_rfl) hT ?_
  simp only [List.setIfInBounds_toArray, List.set_cons_zero, List.set_cons_succ]
  refine takeL 3 9 (.int .i64 j) rfl (by kernel_rfl) (by kernel_rfl) (by kernel_rfl) (by kernel_rfl) (by kernel_rfl) (fun _ _ _ h => h) (by kernel_rfl) (fun w _ => by kernel_rfl) hT ?_
  simp only [List.setIfInBounds_toArray, List.set_cons_zero, List.set_cons_succ]
  refine takeL 4 10 (.slice (some ⟨g, 0, none⟩) n cap) rfl (by kernel_rfl) (by kernel_rfl) (by kernel_rfl) (by kernel_rfl) (by kernel_rfl) (fun _ _ _ h => h) (by kernel_rfl) (fun w _ => by kernel_rfl) hT ?_
  simp only [List.setIfInBounds_toArray, List.set_cons_zero, List.set_cons_succ]
  refine takeL 5 11 (.int .i64 j) rfl (by kernel_rfl) (by kernel_rfl) (by kernel_rfl) (by kernel_rfl) (by kernel_rfl) (fun _ _ _ h => h) (by kernel_rfl) (fun w _ => by kernel_rfl) hT ?_
  simp only [List.setIfInBounds_toArray, List.set_cons_zero, List.set_cons_succ]
  refine takeL 8 14 (.slice (some ⟨g, 0, none⟩) n cap) rfl (by kernel_rfl) (by kernel_rfl) (by kernel_rfl) (by kernel_rfl) (by kernel_rfl) (fun _ _ _ h => h) (by kernel_rfl) (fun w _ => by kernel_rfl) hT ?_
  simp only [List.setIfInBounds_toArray, List.set_cons_zero, List.set_cons_succ]
  refine takeL 9 15 (.int .i64 i) rfl (by kernel_rfl) (by kernel_rfl) (by kernel_rfl) (by kernel_rfl) (by kernel_rfl) (fun _ _ _ h => h) (by kernel_rfl) (fun w _ => by kernel_rfl) hT ?_
  simp only [List.setIfInBounds_toArray, List.set_cons_zero, List.set_cons_succ]
  refine takeL 6 12 (.pointer (some ⟨g, j * 4, none⟩)) rfl (by kernel_rfl) (by kernel_rfl) (by kernel_rfl) (by kernel_rfl) (by kernel_rfl) (fun _ _ _ h => h) (by kernel_rfl) (fun w _ => by exact exec_index56 (m := n) (cap := cap) (x := .tmp 10) (i := .tmp 11) (by kernel_rfl) (by kernel_rfl) (by kernel_rfl) hj) hT ?_
  simp only [List.setIfInBounds_toArray, List.set_cons_zero, List.set_cons_succ]
  refine takeL 10 16 (.pointer (some ⟨g, i * 4, none⟩)) rfl (by kernel_rfl) (by kernel_rfl) (by kernel_rfl) (by kernel_rfl) (by kernel_rfl) (fun _ _ _ h => h) (by kernel_rfl) (fun w _ => by exact exec_index56 (m := n) (cap := cap) (x := .tmp 14) (i := .tmp 15) (by kernel_rfl) (by kernel_rfl) (by kernel_rfl) hi) hT ?_
  simp only [List.setIfInBounds_toArray, List.set_cons_zero, List.set_cons_succ]
  refine butt_of_butu (S := fun W => W.ownsRow base 56 4 (.slice (some ⟨g, 0, none⟩) n cap) n (Sy H)) (L := 13) 15 _ _ _ _ ?_
  refine takeU 7 13 (spV (H.getD j noS)) rfl (by kernel_rfl) (by kernel_rfl) (by kernel_rfl) (by kernel_rfl) (by kernel_rfl) (by kernel_rfl) (fun _ _ _ h => h) (by kernel_rfl) (fun W hW => exec_load56 (x := .tmp 12) (by kernel_rfl) (by kernel_rfl) (HLD.out W hW j hj).1 (HLD.out W hW j hj).2.1 (HLD.out W hW j hj).2.2.1 (HLD.out W hW j hj).2.2.2) hS ?_
  simp only [List.setIfInBounds_toArray, List.set_cons_zero, List.set_cons_succ]
  refine takeU 11 17 (spV (H.getD i noS)) rfl (by kernel_rfl) (by kernel_rfl) (by kernel_rfl) (by kernel_rfl) (by kernel_rfl) (by kernel_rfl) (fun _ _ _ h => h) (by kernel_rfl) (fun W hW => exec_load56 (x := .tmp 16) (by kernel_rfl) (by kernel_rfl) (HLD.out W hW i hi).1 (HLD.out W hW i hi).2.1 (HLD.out W hW i hi).2.2.1 (HLD.out W hW i hi).2.2.2) hS ?_
  simp only [List.setIfInBounds_toArray, List.set_cons_zero, List.set_cons_succ]
  refine takeU 12 18 (.pointer (some ⟨g, i * 4, none⟩)) rfl (by kernel_rfl) (by kernel_rfl) (by kernel_rfl) (by kernel_rfl) (by kernel_rfl) (by kernel_rfl) (fun _ _ _ h => h) (by kernel_rfl) (fun W hW => exec_index56 (m := n) (cap := cap) (x := .tmp 6) (i := .tmp 7) (by kernel_rfl) (by kernel_rfl) (by kernel_rfl) hi) hS ?_
  simp only [List.setIfInBounds_toArray, List.set_cons_zero, List.set_cons_succ]
  refine Exists.elim (exec_put56 (p := .tmp 18) (x := .tmp 13) (s := H.getD j noS) ?_ ?_ ?_ hd hi) (fun W1 h1 => stepU_skip 13 W1 rfl (by kernel_rfl) (by kernel_rfl) (by kernel_rfl) h1.1 (.inl rfl) ?_)
  · kernel_rfl
  · kernel_rfl
  · kernel_rfl
  refine stepU_run 14 19 (.pointer (some ⟨g, j * 4, none⟩)) W1 rfl (by kernel_rfl) (by kernel_rfl) (by kernel_rfl) (exec_index56 (m := n) (cap := cap) (x := .tmp 8) (i := .tmp 9) (by kernel_rfl) (by kernel_rfl) (by kernel_rfl) hj) (by kernel_rfl) ?_
  simp only [List.setIfInBounds_toArray, List.set_cons_zero, List.set_cons_succ]
  refine Exists.elim (exec_put56 (p := .tmp 19) (x := .tmp 17) (s := H.getD i noS) ?_ ?_ ?_ h1.2.1 hj) (fun W2 h2 => stepU_skip 15 W2 rfl (by kernel_rfl) (by kernel_rfl) (by kernel_rfl) h2.1 (.inr (by kernel_rfl)) ?_)
  · kernel_rfl
  · kernel_rfl
  · kernel_rfl
  have HF : Hid (W2.ownsRow base 56 4 (.slice (some ⟨g, 0, none⟩) n cap) n (Sy ((H.set i (H.getD j noS)).set j (H.getD i noS))) ∧ Only (fun k => k = g) w W2) := Hid.mk ⟨h2.2.1, (((Only.refl (fun k => k = g) w).drew).trans h1.2.2 (fun _ h => .inl h)).trans h2.2.2 (fun _ h => .inl h)⟩
  refine endU (by kernel_rfl) ?_
  clear h1 h2 hd hS
  go_wp2
  go_end0
  exact ⟨⟨_, rfl⟩, HF⟩
end Go.Proofs.Ytjljklfahmjngaa
