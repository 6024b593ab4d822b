/-
  The changes between two rows of bytes: Diff.
-/
import Derived.Test.YtjljklfahmjngaaPaRow
import Derived.Test.YtjljklfahmjngaaPaUnlike
import Derived.Test.YtjljklfahmjngaaPaHeld
namespace Go.Proofs.Ytjljklfahmjngaa
open Go Go.Proofs Go.RowKit Go.Shelf
attribute [local go_sem] Oper.semAt_some
theorem exec_slice3 {ev : Operand → Value} {oi : Oper} {x i j k : Operand} {a : Addr} {n c lo hi : Nat} {W : World} (ho : oi.op = .slice 22 x (some i) (some j) (some k)) (hx : ev x = .slice (some a) n c) (h1 : ev i = .int .i64 lo) (h2 : ev j = .int .i64 hi) (h3 : ev k = .int .i64 hi) (hl : lo < hi) (hc : hi ≤ c) : (execOp ev oi).run Try.prog W = .ok (.value (.slice (some (a.add lo)) (hi - lo) (hi - lo))) W := by
  unfold execOp
  rw [ho]
  simp only [hx, h1, h2, h3, Option.map]
  have g1 : (lo : Int) ≤ hi := by omega
  have g2 : (hi : Int) ≤ c := by omega
  go_simp
  intro e
  omega
theorem exec_append {P : Program} {ev : Operand → Value} {oi : Oper} {s x : Operand} {t u : TypeId} {v vx v' : Value} {w w' : World} (ho : oi.op = .call { callee := .builtin .append, args := #[s, x], argTypes := #[t, u] }) (hs : ev s = v) (hx : ev x = vx) (hrun : (Builtin.append_ #[t, u] oi.type #[v, vx]).run P w = .ok v' w') : (execOp ev oi).run P w = .ok (.value v') w' := by
  unfold execOp
  simp only [ho, resolve, invoke, builtin, Sem.run_bind, Sem.run_pure, Result.andThen_ok, List.map_toArray, List.map_cons, List.map_nil, hs, hx, hrun]
theorem exec_storeP {ev : Operand → Value} {oi : Oper} {p x : Operand} {a : Addr} {ao : Option Addr} {n c : Nat} {u : Value} {W : World} (ho : oi.op = .store 23 p x) (hp : ev p = .pointer (some a)) (hx : ev x = .slice ao n c) (hc : W.cell? a = some u) (hf : W.frozen? a = false) : (execOp ev oi).run Try.prog W = .ok .skip (W.setCell a (.slice ao n c)) := by
  unfold execOp
  simp only [ho, hp, hx]
  go_simp
theorem runs_mem (N : Nat) (u : Nat → Bool) (a : Nat) : ∀ r ∈ runsN N u a, a ≤ r.1 ∧ r.1 < r.2 ∧ r.2 ≤ N := by
  induction a using runsN.induct N u with
  | case1 a h hu ih =>
    intro r hr
    rw [runs_yes h hu] at hr
    have h1 := endN_le N u (a + 1)
    have h2 := endN_ge N u (a + 1) h
    rcases List.mem_cons.1 hr with rfl | hr
    · exact ⟨Nat.le_refl _, by show a < endN N u (a + 1); omega, h2⟩
    · have := ih r hr
      omega
  | case2 a h hu ih =>
    intro r hr
    rw [runs_no h (by simpa using hu)] at hr
    have := ih r hr
    omega
  | case3 a h =>
    intro r hr
    rw [runs_end h] at hr
    cases hr
theorem runs_len (N : Nat) (u : Nat → Bool) (a : Nat) : (runsN N u a).length ≤ N - a := by
  induction a using runsN.induct N u with
  | case1 a h hu ih =>
    rw [runs_yes h hu]
    have h1 := endN_le N u (a + 1)
    simp
    omega
  | case2 a h hu ih =>
    rw [runs_no h (by simpa using hu)]
    omega
  | case3 a h =>
    rw [runs_end h]
    simp
theorem BAt.less {W : World} {ao : Option Addr} {n m : Nat} {xs : List Int} (h : BAt W ao n xs) (hm : m ≤ n) : BAt W ao m (xs.take m) := by
  refine ⟨by rw [List.length_take, h.1]; omega, fun h0 => ?_⟩
  obtain ⟨a, e, hlt, hc⟩ := h.2 (by omega)
  refine ⟨a, e, hlt, fun i hi => ?_⟩
  rw [hc i (by omega)]
  simp [List.getD, hi]
/-- Rows of cells of other types lie apart. -/
theorem owns_apart {W : World} {b1 b2 e1 e2 s1 s2 n1 n2 : Nat} {v1 v2 : Value} {x1 x2 : List Value} (h1 : W.ownsRow b1 e1 s1 v1 n1 x1) (h2 : W.ownsRow b2 e2 s2 v2 n2 x2) (he : e1 ≠ e2) (k : Nat) (hk : v1.ownBlock = some k) : v2.ownBlock ≠ some k := by
  intro hk2
  rcases h1.2 with ⟨rfl, _⟩ | ⟨g, cap, cur, rfl, _, hh, _⟩
  · cases hk
  rcases h2.2 with ⟨rfl, _⟩ | ⟨g', cap', cur', rfl, _, hh', _⟩
  · cases hk2
  have a1 : g = k := Option.some.inj hk
  have a2 : g' = k := Option.some.inj hk2
  subst a1
  subst a2
  rw [hh] at hh'
  cases hh'
  exact he rfl
/-- The first k of the changes, by their numbers, places and bytes. -/
def dfS (ys : List Int) (R : List (Nat × Nat)) (k : Nat) : List (Int × Int × List Int) := (List.range k).map fun (j : Nat) => ((j : Int), ((R.getD j (0, 0)).1 : Int), (ys.drop (R.getD j (0, 0)).1).take ((R.getD j (0, 0)).2 - (R.getD j (0, 0)).1))
theorem dfS_snoc (ys : List Int) (R : List (Nat × Nat)) (k : Nat) : dfS ys R (k + 1) = dfS ys R k ++ [((k : Int), ((R.getD k (0, 0)).1 : Int), (ys.drop (R.getD k (0, 0)).1).take ((R.getD k (0, 0)).2 - (R.getD k (0, 0)).1))] := by
  unfold dfS
  rw [List.range_succ, List.map_append]
  rfl
structure DfI (w : World) (ao bo : Option Addr) (N c d : Nat) (ys : List Int) (R : List (Nat × Nat)) (k : Nat) (W : World) : Prop where
  below : Below w.heap.size w W
  size : w.heap.size + 4 ≤ W.heap.size
  b0 : W.heap[w.heap.size]? = some (.cells #[.slice bo N d] 22 (0, 0))
  u0 : W.heap[w.heap.size + 2]? = some (.cells #[.slice ao N c] 22 (0, 0))
  u1 : W.heap[w.heap.size + 3]? = some (.cells #[.slice bo N d] 22 (0, 0))
  st : ∃ v L, W.heap[w.heap.size + 1]? = some (.cells #[v] 23 (0, 0)) ∧ W.ownsRow (w.heap.size + 6) 31 3 v k (Py L) ∧ (∀ p ∈ L, W.ownsRow (w.heap.size + 6) 5 1 p.val p.n (By p.xs)) ∧ L.map Pt.see = dfS ys R k
theorem DfI.same {w : World} {ao bo : Option Addr} {N c d : Nat} {ys : List Int} {R : List (Nat × Nat)} {k : Nat} {W W' : World} (h : DfI w ao bo N c d ys R k W) {row : Option Nat} (hg : W.grownBy W' row) (hr : ∀ r, row = some r → r = w.heap.size + 4 ∨ r = w.heap.size + 5) : DfI w ao bo N c d ys R k W' := by
  have hk : ∀ j, j < w.heap.size + 4 → W'.heap[j]? = W.heap[j]? := fun j hj => hg.block j (by have := h.size; omega) (fun e => by have := hr j e.symm; omega)
  have hb : ∀ {e : TypeId} {size : Nat} {v : Value} {n : Nat} {xs : List Value}, W.ownsRow (w.heap.size + 6) e size v n xs → W'.ownsRow (w.heap.size + 6) e size v n xs := fun ho => owns_at ho (fun j hj => by
    have := ho.lt j hj
    exact hg.block j this.2 (fun e => by have := hr j e.symm; omega))
  obtain ⟨v, L, s1, s2, s3, s4⟩ := h.st
  refine ⟨⟨hg.os.trans h.below.os, hg.tape.trans h.below.tape, hg.output.trans h.below.output, Nat.le_trans h.below.size hg.size, fun j hj => (hk j (by omega)).trans (h.below.block j hj)⟩, Nat.le_trans h.size hg.size, (hk _ (by omega)).trans h.b0, (hk _ (by omega)).trans h.u0, (hk _ (by omega)).trans h.u1, v, L, (hk _ (by omega)).trans s1, hb s2, fun p hp => hb (s3 p hp), s4⟩
set_option maxRecDepth 100000 in
set_option maxHeartbeats 4000000 in
theorem diff_no (w : World) (ao bo : Option Addr) (N M c d : Nat) (h : N ≠ M) : Calls Try.prog 17 #[.slice ao N c, .slice bo M d] w fun e w' => e = .returned (.slice none 0 0) ∧ Below w.heap.size w w' := by
  have h1 : ¬ (N : Int) = (M : Int) := by omega
  have h2 : ((N : Int) == (M : Int)) = false := by simp; omega
  refine (callsIn_wide (n := 6)).1 ?_
  refine callsIn_of_wp_marks Try.func17 rfl trivial ?_ rfl
  simp only [Try.ntmps17, List.size_toArray, List.length_cons, List.length_nil, Nat.reduceAdd, Nat.reduceSub, Array.replicate_succ, Array.replicate_zero, List.push_toArray, List.append_toArray, List.nil_append, List.cons_append]
  gi_wp2
  refine ⟨_, results_tmp rfl _ _ _, ?_⟩
  exact ⟨rfl, (Below.refl _ w).alloc (Nat.le_refl _) _⟩
set_option maxRecDepth 100000 in
set_option maxHeartbeats 4000000 in
theorem diff_yes (w : World) (ao bo : Option Addr) (N c d : Nat) (xs ys : List Int) (hx : BAt w ao N xs) (hy : BAt w bo N ys) (hN : N ≤ 1000000) (hd : N ≤ d ∧ d ≤ 9223372036854775807) :
    Calls Try.prog 17 #[.slice ao N c, .slice bo N d] w fun e w' => ∃ v L, e = .returned v ∧ w'.ownsRow w.heap.size 31 3 v L.length (Py L) ∧ (∀ p ∈ L, w'.ownsRow w.heap.size 5 1 p.val p.n (By p.xs)) ∧ L.map Pt.see = dfS ys (runsN N (unB xs ys) 0) (runsN N (unB xs ys) 0).length ∧ Below w.heap.size w w' := by
  have HX := Hid.mk hx
  have HY := Hid.mk hy
  have HM : Hid (N ≤ 1000000 ∧ N ≤ d ∧ d ≤ 9223372036854775807) := Hid.mk ⟨hN, hd.1, hd.2⟩
  obtain ⟨R, hR⟩ : ∃ R, R = runsN N (unB xs ys) 0 := ⟨_, rfl⟩
  rw [← hR]
  have HR := Hid.mk hR
  clear hx hy hN hd hR
  obtain ⟨w2, hw2⟩ : ∃ w2, w2 = (w.alloc (.cells #[.slice bo N d] 22)).alloc (.cells #[.slice none 0 0] 23) := ⟨_, rfl⟩
  have HW2 := Hid.mk hw2
  clear hw2
  refine (callsIn_wide (n := 6)).1 ?_
  refine callsIn_of_wp_marks Try.func17 rfl trivial ?_ rfl
  simp only [Try.ntmps17, List.size_toArray, List.length_cons, List.length_nil, Nat.reduceAdd, Nat.reduceSub, Array.replicate_succ, Array.replicate_zero, List.push_toArray, List.append_toArray, List.nil_append, List.cons_append]
  gi_wp2_with (first
    | (refine ⟨trivial, ?_⟩; gi_at_call 30; rw [← HW2.out]; refine (callsIn_wide.2 (unlike_any w2 (.slice ao N c) (.slice bo N d) ⟨_, _, _, rfl⟩ ⟨_, _, _, rfl⟩)).mono ?_; rintro e w5 ⟨rfl, hw5⟩; have HW5 := Hid.mk hw5; clear hw5))
  have hs2 : w2.heap.size = w.heap.size + 2 := by rw [HW2.out]; simp
  have hs5 : w5.heap.size = w.heap.size + 4 := by rw [HW5.out]; simp [hs2]
  have hI0 : DfI w ao bo N c d ys R 0 w5 := by
    have hB2 : Below w.heap.size w w2 := by rw [HW2.out]; exact ((Below.refl _ w).alloc (Nat.le_refl _) _).alloc (by simp) _
    have hB5 : Below w2.heap.size w2 w5 := by rw [HW5.out]; exact ((Below.refl _ _).alloc (Nat.le_refl _) _).alloc (by simp) _
    have e0 : w2.heap[w.heap.size]? = some (.cells #[.slice bo N d] 22 (0, 0)) := by
      rw [HW2.out, Below.heap_alloc _ _ _ (by simp)]
      exact blk_new w _
    have e1 : w2.heap[w.heap.size + 1]? = some (.cells #[.slice none 0 0] 23 (0, 0)) := by
      rw [HW2.out]
      have := blk_new (w.alloc (.cells #[.slice bo N d] 22)) (.cells #[.slice none 0 0] 23)
      rwa [World.size_alloc] at this
    refine ⟨hB2.trans (hB5.mono hB2.size), by omega, (hB5.block _ (by omega)).trans e0, ?_, ?_, .slice none 0 0, [], (hB5.block _ (by omega)).trans e1, World.ownsRow_nil _ _ _ _, (fun p hp => by cases hp), rfl⟩
    · rw [HW5.out, Below.heap_alloc _ _ _ (by simp; omega), ← hs2]
      exact blk_new w2 _
    · rw [HW5.out]
      have := blk_new (w2.alloc (.cells #[.slice ao N c] 22)) (.cells #[.slice bo N d] 22)
      rw [World.size_alloc, hs2] at this
      exact this
  have HI0 := Hid.mk hI0
  have HS5 := Hid.mk hs5
  rw [hs2]
  clear hI0 hs2 HW2 HW5 hs5
  refine wpIn_range_stop (gf := 39) (lb := #[ptA (w.heap.size + 2), ptA (w.heap.size + 3)]) rfl (enters_of Try.func39 (by kernel_rfl) rfl) R.length (runV R) (fun _ => rfl)
    (DfI w ao bo N c d ys R) (fun _ => False)
    (fun k A B row hA hg hr => hA.same hg (fun r e => by have := hr r e; have := HS5.out; omega)) (fun A B row hA _ _ => hA) HI0.out ?hit
    (fun k => { tmps := #[.slice ao N c, .slice bo N d, undef, .pointer (some ⟨w.heap.size, 0, none⟩), .slice none 0 0, .pointer (some ⟨w.heap.size + 1, 0, none⟩), .int .i64 ((R.getD k (0, 0)).1 : Nat), .int .i64 ((R.getD k (0, 0)).2 : Nat), .slice ao N c, .int .i64 N, .slice bo N d, .int .i64 N, .bool false, .slice ao N c, .slice bo N d, unlikeV (w.heap.size + 2), .int .i64 ((R.getD k (0, 0)).1 : Nat), .int .i64 ((R.getD k (0, 0)).2 : Nat), undef, undef, undef, undef, undef, undef, undef, undef, undef, undef, undef, undef, undef, undef], defers := [] }) ?assign ?body ?done ?stop
  case hit =>
    intro l J Jx W hJI hJs hg hY h0
    have := unlike1_in 5 (by omega) l (w.heap.size + 2) ao bo N c d xs ys (by have := HM.out; omega) J Jx W hJs ?_ ?_ h0
    · rw [← HR.out] at this; exact this
    · intro k A hJ
      have hA := hJI k A hJ
      have hO := Only.of_new (fun _ => False) hA.below
      exact ⟨by rw [blk_cell hA.u0]; rfl, by rw [blk_cell hA.u1]; rfl, HX.out.below hA.below, HY.out.below hA.below⟩
    · rw [← HR.out]
      exact hY
  case assign =>
    intro l k W K hK
    unfold runV
    generalize R.getD k (0, 0) = r at *
    gi_wp2
    exact hK
  case body =>
    rintro l k W hAd hk hW2
    obtain ⟨v, L, s1, s2, s3, s4⟩ := hAd.st
    obtain ⟨vo, vc, rfl, hpc, hvo, hvc⟩ := owns_PcAt s2
    have hrun : (R.getD k (0, 0)).1 < (R.getD k (0, 0)).2 ∧ (R.getD k (0, 0)).2 ≤ N := by
      have hm : R.getD k (0, 0) ∈ runsN N (unB xs ys) 0 := by rw [← HR.out, List.getD_eq_getElem?_getD, List.getElem?_eq_getElem hk]; exact List.getElem_mem hk
      exact (runs_mem _ _ _ _ hm).2
    have hkN : k < 1000000 := by
      have := runs_len N (unB xs ys) 0
      rw [← HR.out] at this
      have := HM.out
      omega
    have hsee := dfS_snoc ys R k
    obtain ⟨s, hs⟩ : ∃ s, s = (R.getD k (0, 0)).1 := ⟨_, rfl⟩
    obtain ⟨f, hf⟩ : ∃ f, f = (R.getD k (0, 0)).2 := ⟨_, rfl⟩
    rw [← hs, ← hf] at hrun hsee
    rw [← hs, ← hf]
    have hyW := HY.out.below hAd.below
    obtain ⟨p, hp, -⟩ := hyW.at s (by omega)
    subst hp
    have HSF : Hid (s < f ∧ f ≤ d) := Hid.mk ⟨hrun.1, by have := HM.out; omega⟩
    have hcl : BAt W.drew (some (p.add s)) (f - s) ((ys.drop s).take (f - s)) := by
      have h1 : BAt W.drew (some p) N ys := hyW
      exact (h1.from s (by omega)).less (by omega)
    have HCL := Hid.mk (clone_any (p.add s) (f - s) (f - s) ((ys.drop s).take (f - s)) W.drew hcl.1 (by have := HM.out; omega) (fun i hi => by
      obtain ⟨a', e, hc⟩ := hcl.at i hi
      cases e
      exact hc))
    have HREST : Hid (∀ w6 ao6 c6, w6.ownsRow W.drew.heap.size 5 1 (.slice ao6 (f - s) c6) (f - s) (By ((ys.drop s).take (f - s))) → Below W.drew.heap.size W.drew w6 →
        Hid (w6.cell? ⟨w.heap.size + 1, 0, none⟩ = some (.slice vo k vc) ∧ w6.cell? ⟨w.heap.size, 0, none⟩ = some (.slice (some p) N d)) ∧ ∃ v7 W7 vo7 vc7, v7 = .slice vo7 (k + 1) vc7 ∧
        Hid ((Builtin.append_ #[23, 23] 23 #[.slice vo k vc, .slice (some ⟨w6.heap.size, 0, none⟩) 1 1]).run Try.prog (w6.alloc (.cells (paC k s (.slice ao6 (f - s) c6)).toArray 31)) = .ok v7 W7) ∧
        Hid (((w6.alloc (.cells (paC k s (.slice ao6 (f - s) c6)).toArray 31)).cell? ⟨w.heap.size + 1, 0, none⟩ = some (.slice vo k vc) ∧ (w6.alloc (.cells (paC k s (.slice ao6 (f - s) c6)).toArray 31)).cell? ⟨w.heap.size, 0, none⟩ = some (.slice (some p) N d)) ∧ W7.cell? ⟨w.heap.size + 1, 0, none⟩ = some (.slice vo k vc) ∧ W7.cell? ⟨w.heap.size, 0, none⟩ = some (.slice (some p) N d)) ∧
        Hid (W7.cell? ⟨w.heap.size + 1, 0, none⟩ = some (.slice vo k vc)) ∧ Hid (W7.frozen? ⟨w.heap.size + 1, 0, none⟩ = false) ∧
        Hid ((W7.setCell ⟨w.heap.size + 1, 0, none⟩ v7).heap[w5.heap.size]? = W.heap[w5.heap.size]? ∧ (W7.setCell ⟨w.heap.size + 1, 0, none⟩ v7).heap[w5.heap.size + 1]? = W.heap[w5.heap.size + 1]? ∧ DfI w ao (some p) N c d ys R (k + 1) (W7.setCell ⟨w.heap.size + 1, 0, none⟩ v7))) := Hid.mk (by
      intro w6 ao6 c6 hown6 hB6
      have hsz : W.drew.heap.size = W.heap.size := rfl
      have hS5 := HS5.out
      rw [hsz] at hB6 hown6
      have d1 : ∀ j, j < W.heap.size → w6.heap[j]? = W.heap[j]? := fun j hj => hB6.block j hj
      have hl6 : W.heap.size ≤ w6.heap.size := hB6.size
      have hv6 : w6.ownsRow (w.heap.size + 6) 31 3 (.slice vo k vc) k (Py L) := owns_at s2 (fun j hj => d1 j (s2.lt j hj).2)
      obtain ⟨q, hq⟩ : ∃ q : Pt, q = ⟨k, s, ao6, f - s, c6, (ys.drop s).take (f - s)⟩ := ⟨_, rfl⟩
      have hqc : q.cs = paC k s (.slice ao6 (f - s) c6) := by rw [hq]; rfl
      obtain ⟨v7, W7, hr7, hown7, hg7⟩ := appendp_run w6 (w.heap.size + 6) (.slice vo k vc) k L q hv6 (by omega) (by omega)
      rw [hqc] at hr7 hg7
      obtain ⟨o6, ho6⟩ : ∃ o6 : Obj, o6 = .cells (paC k s (.slice ao6 (f - s) c6)).toArray 31 := ⟨_, rfl⟩
      obtain ⟨vo7, vc7, hv7, -⟩ := owns_PcAt hown7
      have a6 : ∀ j, j < w6.heap.size → (w6.alloc o6).heap[j]? = w6.heap[j]? := fun j hj => Below.heap_alloc _ _ _ hj
      rw [← ho6] at hg7
      have d7 : ∀ j, j < w6.heap.size → (Value.slice vo k vc).ownBlock ≠ some j → W7.heap[j]? = w6.heap[j]? := fun j hj hn => (hg7.block j (by simp; omega) (fun e => hn e.symm)).trans (a6 j hj)
      have low : ∀ j, j < w.heap.size + 6 → (Value.slice vo k vc).ownBlock ≠ some j := fun j hj e => by have := (s2.lt j e).1; omega
      have c1 : w6.heap[w.heap.size + 1]? = some (.cells #[.slice vo k vc] 23 (0, 0)) := (d1 _ (by omega)).trans s1
      have c0 : w6.heap[w.heap.size]? = some (.cells #[.slice (some p) N d] 22 (0, 0)) := (d1 _ (by omega)).trans hAd.b0
      have e1 : W7.heap[w.heap.size + 1]? = some (.cells #[.slice vo k vc] 23 (0, 0)) := (d7 _ (by omega) (low _ (by omega))).trans c1
      have e0 : W7.heap[w.heap.size]? = some (.cells #[.slice (some p) N d] 22 (0, 0)) := (d7 _ (by omega) (low _ (by omega))).trans c0
      have e8 : ∀ j, j ≠ w.heap.size + 1 → (W7.setCell ⟨w.heap.size + 1, 0, none⟩ v7).heap[j]? = W7.heap[j]? := fun j hj => Below.heap_setCell _ _ _ _ hj
      have o8 : ∀ {e size n : Nat} {v : Value} {xs : List Value}, W7.ownsRow (w.heap.size + 6) e size v n xs → (W7.setCell ⟨w.heap.size + 1, 0, none⟩ v7).ownsRow (w.heap.size + 6) e size v n xs := fun ho => owns_at ho (fun j hj => e8 j (by have := (ho.lt j hj).1; omega))
      have s8 : (W7.setCell ⟨w.heap.size + 1, 0, none⟩ v7).heap.size = W7.heap.size := by simp
      have s7 : w6.heap.size + 1 ≤ W7.heap.size := by have := hg7.size; simpa using this
      have f8 : ∀ j, j < w.heap.size + 6 → j ≠ w.heap.size + 1 → (W7.setCell ⟨w.heap.size + 1, 0, none⟩ v7).heap[j]? = W.heap[j]? := fun j hj hn => ((e8 j hn).trans (d7 j (by omega) (low j hj))).trans (d1 j (by omega))
      rw [← ho6]
      refine ⟨Hid.mk ⟨by rw [blk_cell c1]; rfl, by rw [blk_cell c0]; rfl⟩, v7, W7, vo7, vc7, hv7, Hid.mk (by rw [ho6]; exact hr7), Hid.mk ⟨⟨by rw [blk_cell ((a6 _ (by omega)).trans c1)]; rfl, by rw [blk_cell ((a6 _ (by omega)).trans c0)]; rfl⟩, by rw [blk_cell e1]; rfl, by rw [blk_cell e0]; rfl⟩, Hid.mk (by rw [blk_cell e1]; rfl), Hid.mk (blk_free e1 0), Hid.mk ⟨f8 _ (by omega) (by omega), f8 _ (by omega) (by omega), ?_⟩⟩
      have hbw := hAd.below
      refine ⟨⟨?_, ?_, ?_, by omega, fun j hj => (f8 j (by omega) (by omega)).trans (hbw.block j hj)⟩, by omega, (f8 _ (by omega) (by omega)).trans hAd.b0, (f8 _ (by omega) (by omega)).trans hAd.u0, (f8 _ (by omega) (by omega)).trans hAd.u1, v7, L ++ [q], ?_, o8 hown7, fun x hx => ?_, ?_⟩
      · exact (hg7.os.trans hB6.os).trans hbw.os
      · exact (hg7.tape.trans hB6.tape).trans hbw.tape
      · exact (hg7.output.trans hB6.output).trans hbw.output
      · rw [blk_set e1]
        rfl
      · rcases List.mem_append.1 hx with hx | hx
        · have ho := s3 x hx
          refine o8 (owns_at ho (fun j hj => ?_))
          have hlt := (ho.lt j hj).2
          exact (d7 j (by omega) (owns_apart ho s2 (by decide) j hj)).trans (d1 j hlt)
        · obtain rfl := List.mem_singleton.1 hx
          rw [hq]
          have ho : w6.ownsRow (w.heap.size + 6) 5 1 (.slice ao6 (f - s) c6) (f - s) (By ((ys.drop s).take (f - s))) := owns_base hown6 (by omega)
          refine o8 (owns_at ho (fun j hj => ?_))
          have hlt := hown6.lt j hj
          exact d7 j hlt.2 (fun e => by have := (s2.lt j e).2; omega)
      · rw [List.map_append, s4, hsee, hq]
        rfl)
    have hH : W.drew.cell? ⟨w.heap.size + 1, 0, none⟩ = some (.slice vo k vc) ∧ W.drew.cell? ⟨w.heap.size, 0, none⟩ = some (.slice (some p) N d) := ⟨by rw [blk_cell (w := W.drew) s1]; rfl, by rw [blk_cell (w := W.drew) hAd.b0]; rfl⟩
    clear hrun hsee hyW hcl hAd s1 s2 s3 s4 hpc hvo hvc hs hf
    gi_wp2
    refine round_region_but 13 (fun W => W.cell? ⟨w.heap.size + 1, 0, none⟩ = some (.slice vo k vc) ∧ W.cell? ⟨w.heap.size, 0, none⟩ = some (.slice (some p) N d)) (by kernel_rfl) (by kernel_rfl) hH (fun hH => ?_)
    refine takeL 0 18 (.slice vo k vc) rfl (by kernel_rfl) (by kernel_rfl) (by kernel_rfl) (by kernel_rfl) (by kernel_rfl) (fun _ _ _ h => h) (by kernel_rfl) (fun w hw => by obtain ⟨hw, hw2⟩ := hw; (try dsimp only at hw); go_simp) hH ?_
    simp only [List.setIfInBounds_toArray, List.set_cons_zero, List.set_cons_succ]
    refine takeL 1 19 (.slice vo k vc) rfl (by kernel_rfl) (by kernel_rfl) (by kernel_rfl) (by kernel_rfl) (by kernel_rfl) (fun _ _ _ h => h) (by kernel_rfl) (fun w hw => by obtain ⟨hw, hw2⟩ := hw; (try dsimp only at hw); go_simp) hH ?_
    simp only [List.setIfInBounds_toArray, List.set_cons_zero, List.set_cons_succ]
    refine takeL 2 20 (.int .i64 k) rfl (by kernel_rfl) (by kernel_rfl) (by kernel_rfl) (by kernel_rfl) (by kernel_rfl) (fun _ _ _ h => h) (by kernel_rfl) (fun w hw => by go_simp) hH ?_
    simp only [List.setIfInBounds_toArray, List.set_cons_zero, List.set_cons_succ]
    refine takeL 3 21 (.int .i64 s) rfl (by kernel_rfl) (by kernel_rfl) (by kernel_rfl) (by kernel_rfl) (by kernel_rfl) (fun _ _ _ h => h) (by kernel_rfl) (fun w hw => by kernel_rfl) hH ?_
    simp only [List.setIfInBounds_toArray, List.set_cons_zero, List.set_cons_succ]
    refine takeL 4 22 (.slice (some p) N d) rfl (by kernel_rfl) (by kernel_rfl) (by kernel_rfl) (by kernel_rfl) (by kernel_rfl) (fun _ _ _ h => h) (by kernel_rfl) (fun w hw => by obtain ⟨hw2, hw⟩ := hw; (try dsimp only at hw); go_simp) hH ?_
    simp only [List.setIfInBounds_toArray, List.set_cons_zero, List.set_cons_succ]
    refine takeL 5 23 (.int .i64 s) rfl (by kernel_rfl) (by kernel_rfl) (by kernel_rfl) (by kernel_rfl) (by kernel_rfl) (fun _ _ _ h => h) (by kernel_rfl) (fun w hw => by kernel_rfl) hH ?_
    simp only [List.setIfInBounds_toArray, List.set_cons_zero, List.set_cons_succ]
    refine takeL 6 24 (.int .i64 f) rfl (by kernel_rfl) (by kernel_rfl) (by kernel_rfl) (by kernel_rfl) (by kernel_rfl) (fun _ _ _ h => h) (by kernel_rfl) (fun w hw => by kernel_rfl) hH ?_
    simp only [List.setIfInBounds_toArray, List.set_cons_zero, List.set_cons_succ]
    refine takeL 7 25 (.int .i64 f) rfl (by kernel_rfl) (by kernel_rfl) (by kernel_rfl) (by kernel_rfl) (by kernel_rfl) (fun _ _ _ h => h) (by kernel_rfl) (fun w hw => by kernel_rfl) hH ?_
    simp only [List.setIfInBounds_toArray, List.set_cons_zero, List.set_cons_succ]
    refine takeL 8 26 (.slice (some (p.add s)) (f - s) (f - s)) rfl (by kernel_rfl) (by kernel_rfl) (by kernel_rfl) (by kernel_rfl) (by kernel_rfl) (fun _ _ _ h => h) (by kernel_rfl) (fun w hw => by exact exec_slice3 (n := N) (x := .tmp 22) (i := .tmp 23) (j := .tmp 24) (k := .tmp 25) (by kernel_rfl) (by kernel_rfl) (by kernel_rfl) (by kernel_rfl) (by kernel_rfl) HSF.out.1 HSF.out.2) hH ?_
    simp only [List.setIfInBounds_toArray, List.set_cons_zero, List.set_cons_succ]
    refine stepL_call 9 27 rfl (by kernel_rfl) (by kernel_rfl) (by kernel_rfl) 21 #[.tmp 26] #[22] (by kernel_rfl) (enters_of Try.func21 (by kernel_rfl) rfl) #[.slice (some (p.add s)) (f - s) (f - s)] (by kernel_rfl) HCL.out ?_
    rintro e w6 ⟨v6, rfl, hown6, -, hB6⟩
    obtain ⟨ao6, c6, rfl, -⟩ := owns_BAt hown6
    obtain ⟨HS6, v7, W7, vo7, vc7, HV7, HR7, HS7, HC7, HF7, HFIN⟩ := HREST.out w6 ao6 c6 hown6 hB6
    subst HV7
    refine ⟨_, rfl, HS6.out, ?_⟩
    simp only [List.setIfInBounds_toArray, List.set_cons_zero, List.set_cons_succ]
    refine stepL_run 10 28 (paV k s (.slice ao6 (f - s) c6)) w6 rfl (by kernel_rfl) (by kernel_rfl) (by kernel_rfl) (exec_build31 (x := .tmp 20) (y := .tmp 21) (z := .tmp 27) (by kernel_rfl) (by kernel_rfl) (by kernel_rfl) (by kernel_rfl) ⟨_, _, _, rfl⟩) HS6.out ?_
    simp only [List.setIfInBounds_toArray, List.set_cons_zero, List.set_cons_succ]
    refine stepL_run 11 29 (.slice (some ⟨w6.heap.size, 0, none⟩) 1 1) (w6.alloc (.cells (paC k s (.slice ao6 (f - s) c6)).toArray 31)) rfl (by kernel_rfl) (by kernel_rfl) (by kernel_rfl) (exec_one31 (x := .tmp 28) (by kernel_rfl) (by kernel_rfl) ⟨_, _, _, rfl⟩) HS7.out.1 ?_
    simp only [List.setIfInBounds_toArray, List.set_cons_zero, List.set_cons_succ]
    refine stepL_run 12 30 (.slice vo7 (k + 1) vc7) W7 rfl (by kernel_rfl) (by kernel_rfl) (by kernel_rfl) (exec_append (s := .tmp 18) (x := .tmp 29) (by kernel_rfl) (by kernel_rfl) (by kernel_rfl) HR7.out) HS7.out.2 ?_
    simp only [List.setIfInBounds_toArray, List.set_cons_zero, List.set_cons_succ]
    refine lastL (W7.setCell ⟨w.heap.size + 1, 0, none⟩ (.slice vo7 (k + 1) vc7)) rfl (by kernel_rfl) (by kernel_rfl) (by kernel_rfl) (exec_storeP (p := .tmp 5) (x := .tmp 30) (by kernel_rfl) (by kernel_rfl) (by kernel_rfl) HC7.out HF7.out) (by kernel_rfl) ?_
    dsimp only [Norm]
    gi_wp2
    exact HFIN.out
  case done =>
    rintro D9 W9 hD9 hAd hKD
    subst hD9
    obtain ⟨v, L, s1, s2, s3, s4⟩ := hAd.st
    have hS5 := HS5.out
    have m1 : W9.cell? ⟨w.heap.size + 1, 0, none⟩ = some v := by rw [blk_cell s1]; rfl
    obtain ⟨vo, vc, rfl, -⟩ := owns_PcAt s2
    have hlen : L.length = R.length := by have := congrArg List.length s4; simpa [dfS] using this
    have hgp := grownBy_putObj' W9 w5.heap.size (.deferred none)
    have oo : ∀ {e size n : Nat} {v : Value} {xs : List Value}, W9.ownsRow (w.heap.size + 6) e size v n xs → (W9.putObj w5.heap.size (.deferred none)).ownsRow w.heap.size e size v n xs := fun ho => owns_base (owns_at ho (fun j hj => hgp.block j (ho.lt j hj).2 (fun e => by have := (ho.lt j hj).1; cases e; omega))) (by omega)
    have HFIN : Hid ((W9.putObj w5.heap.size (.deferred none)).ownsRow w.heap.size 31 3 (.slice vo R.length vc) L.length (Py L) ∧ (∀ p ∈ L, (W9.putObj w5.heap.size (.deferred none)).ownsRow w.heap.size 5 1 p.val p.n (By p.xs)) ∧ L.map Pt.see = dfS ys R R.length ∧ Below w.heap.size w (W9.putObj w5.heap.size (.deferred none))) := Hid.mk ⟨by rw [hlen]; exact oo s2, fun p hp => oo (s3 p hp), s4, ⟨hgp.os.trans hAd.below.os, hgp.tape.trans hAd.below.tape, hgp.output.trans hAd.below.output, Nat.le_trans hAd.below.size hgp.size, fun j hj => (hgp.block j (by have := hAd.below.size; omega) (fun e => by cases e; omega)).trans (hAd.below.block j hj)⟩⟩
    clear hAd s1 s2 s3 s4 oo hgp
    have HKD := Hid.mk hKD
    gi_wp2
    refine ⟨by simp, .inl ⟨_, _, rfl, run_takeDeferred HKD.out, ?_⟩⟩
    refine ⟨_, results_tmp rfl _ _ _, ?_⟩
    exact ⟨_, L, rfl, HFIN.out⟩
  case stop =>
    rintro D9 W9 _ hX
    exact hX.elim
end Go.Proofs.Ytjljklfahmjngaa
