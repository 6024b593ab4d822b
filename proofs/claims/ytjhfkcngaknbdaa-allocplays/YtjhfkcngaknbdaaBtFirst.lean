/-
  What First does, for every row and numbers.
-/
import Derived.Test.YtjhfkcngaknbdaaBtCount
namespace Go.Proofs.Ytjhfkcngaknbdaa
open Go Go.Proofs Go.RowKit Go.Shelf
namespace Bt
attribute [local go_sem] Oper.semAt_some
/-- Between two rounds of First's loop. -/
def FI (xs : List Int) (w : World) (pre : List Nat) (W : World) : Prop :=
  (∀ q ∈ pre, getN xs q = true) ∧ W.heap[w.heap.size]? = some (.cells #[.int .i64 0] 3 (0, 0)) ∧ W.heap[w.heap.size + 1]? = some (.cells #[.bool false] 4 (0, 0)) ∧ Below w.heap.size w W ∧ w.heap.size + 5 ≤ W.heap.size
/-- A round has found one. -/
def FX (xs : List Int) (w : World) (c : Code) (pre : List Nat) (W : World) : Prop :=
  c = .ret ∧ ∃ p x, pre = p ++ [x] ∧ (∀ q ∈ p, getN xs q = true) ∧ getN xs x = false ∧ W.heap[w.heap.size]? = some (.cells #[.int .i64 (x : Nat)] 3 (0, 0)) ∧ W.heap[w.heap.size + 1]? = some (.cells #[.bool true] 4 (0, 0)) ∧ Below w.heap.size w W ∧ w.heap.size + 5 ≤ W.heap.size
set_option maxRecDepth 100000 in
theorem FI_own (xs : List Int) (w : World) : OwnFrom (w.heap.size + 5) (FI xs w) := by
  intro pre W W' row h hg hr
  obtain ⟨h0, h1, h2, h3, h4⟩ := h
  exact ⟨h0, keep_cells h1 hg (fun r e => (hr r e).2), keep_cells h2 hg (fun r e => (hr r e).2), h3.grown hg h3.size (fun k e => by have := (hr k e).1; omega), Nat.le_trans h4 hg.size⟩
set_option maxRecDepth 100000 in
theorem FX_own (xs : List Int) (w : World) (c : Code) : OwnFrom (w.heap.size + 5) (FX xs w c) := by
  intro pre W W' row h hg hr
  obtain ⟨e, p, x, hp, ha, hx, h1, h2, h3, h4⟩ := h
  exact ⟨e, p, x, hp, ha, hx, keep_cells h1 hg (fun r e => (hr r e).2), keep_cells h2 hg (fun r e => (hr r e).2), h3.grown hg h3.size (fun k e => by have := (hr k e).1; omega), Nat.le_trans h4 hg.size⟩
theorem fst_none {xs : List Int} {f n : Int} (h : ∀ q ∈ List.range' (bFrom f) (bMany xs f n), getN xs q = true) : fstN xs (bndI xs n) (bFrom f) = none := by
  unfold fstN
  rw [List.find?_eq_none]
  intro q hq
  rw [h q hq]
  simp
set_option maxRecDepth 100000 in
theorem fst_some {xs : List Int} {f n : Int} {p : List Nat} {x k : Nat} (hk : k < bMany xs f n) (hp : List.range' (bFrom f) (k + 1) = p ++ [x]) (h : ∀ q ∈ p, getN xs q = true) (hx : getN xs x = false) : fstN xs (bndI xs n) (bFrom f) = some x := by
  unfold fstN
  have e : bndI xs n - bFrom f = (k + 1) + (bMany xs f n - (k + 1)) := by
    have : bMany xs f n = bndI xs n - bFrom f := rfl
    omega
  rw [e, ← List.range'_append_1, hp, List.append_assoc, List.find?_append]
  have h1 : p.find? (fun q => !getN xs q) = none := by
    rw [List.find?_eq_none]
    intro q hq
    rw [h q hq]
    simp
  rw [h1]
  simp [hx]
set_option maxRecDepth 100000 in
set_option maxHeartbeats 4000000 in
theorem first_any (w : World) (ao : Option Addr) (l c : Nat) (xs : List Int) (h : BAt w ao l xs) (hx : ∀ x ∈ xs, 0 ≤ x ∧ x ≤ 255) (hbig : l ≤ 140737488355328) (n f : Int) (hn : I64 n) (hf : I64 f) :
    Calls Try.prog 44 #[.slice ao l c, .int .i64 n, .int .i64 f] w fun e w' => e = .returned (fstV (fstN xs (bndI xs n) (bFrom f))) ∧ Below w.heap.size w w' := by
  refine (callsIn_wide (n := 5)).1 ?_
  refine callsIn_of_wp_marks Try.func44 rfl trivial ?_ rfl
  simp only [Try.ntmps44, List.size_toArray, List.length_cons, List.length_nil, Nat.reduceAdd, Nat.reduceSub, Array.replicate_succ, Array.replicate_zero, List.push_toArray, List.append_toArray, List.nil_append, List.cons_append]
  gi_wp2_with (refine ⟨trivial, ?_⟩; gi_at_call 55; refine (callsIn_wide.2 (between_any _ _ _ _ _ _)).mono ?_; rintro e w' ⟨rfl, hw⟩; subst w')
  try simp only [World.size_alloc]
  have q0 := blk_new w (.cells #[.int .i64 0] 3)
  have q1 := blk_new (w.alloc (.cells #[.int .i64 0] 3)) (.cells #[.bool false] 4)
  have q2 := blk_new ((w.alloc (.cells #[.int .i64 0] 3)).alloc (.cells #[.bool false] 4)) (.cells #[.slice ao l c] 39)
  have q3 := blk_new (((w.alloc (.cells #[.int .i64 0] 3)).alloc (.cells #[.bool false] 4)).alloc (.cells #[.slice ao l c] 39)) (.cells #[.int .i64 f] 3)
  have q4 := blk_new ((((w.alloc (.cells #[.int .i64 0] 3)).alloc (.cells #[.bool false] 4)).alloc (.cells #[.slice ao l c] 39)).alloc (.cells #[.int .i64 f] 3)) (.cells #[.int .i64 n] 3)
  simp only [World.size_alloc] at q1 q2 q3 q4
  obtain ⟨W0, hW0⟩ : ∃ W0, W0 = ((((w.alloc (.cells #[.int .i64 0] 3)).alloc (.cells #[.bool false] 4)).alloc (.cells #[.slice ao l c] 39)).alloc (.cells #[.int .i64 f] 3)).alloc (.cells #[.int .i64 n] 3) := ⟨_, rfl⟩
  have z0 : W0.heap[w.heap.size]? = some (.cells #[.int .i64 0] 3 (0, 0)) := by
    rw [hW0, Below.heap_alloc _ _ _ (by simp; omega), Below.heap_alloc _ _ _ (by simp; omega), Below.heap_alloc _ _ _ (by simp; omega), Below.heap_alloc _ _ _ (by simp)]; exact q0
  have z1 : W0.heap[w.heap.size + 1]? = some (.cells #[.bool false] 4 (0, 0)) := by
    rw [hW0, Below.heap_alloc _ _ _ (by simp [World.size_alloc] <;> omega), Below.heap_alloc _ _ _ (by simp), Below.heap_alloc _ _ _ (by simp)]; exact q1
  have z2 : W0.heap[w.heap.size + 1 + 1]? = some (.cells #[.slice ao l c] 39 (0, 0)) := by
    rw [hW0, Below.heap_alloc _ _ _ (by simp), Below.heap_alloc _ _ _ (by simp)]; exact q2
  have z3 : W0.heap[w.heap.size + 1 + 1 + 1]? = some (.cells #[.int .i64 f] 3 (0, 0)) := by rw [hW0, Below.heap_alloc _ _ _ (by simp)]; exact q3
  have z4 : W0.heap[w.heap.size + 1 + 1 + 1 + 1]? = some (.cells #[.int .i64 n] 3 (0, 0)) := by rw [hW0]; exact q4
  have zs : W0.heap.size = w.heap.size + 5 := by rw [hW0]; simp
  have zb : Below w.heap.size w W0 := by
    rw [hW0]
    exact (((((Below.refl _ w).alloc (Nat.le_refl _) _).alloc (by simp) _).alloc (by simp; omega) _).alloc (by simp; omega) _).alloc (by simp; omega) _
  rw [← hW0]
  clear q0 q1 q2 q3 q4 hW0
  have hSlt : ∀ k, SB (w.heap.size + 2) ao l k → k < W0.heap.size := by
    rintro k (hk | ⟨a, e, hl, rfl⟩)
    · omega
    · obtain ⟨a', e', hlt, _⟩ := h.2 hl
      rw [e] at e'; cases e'
      omega
  have hSw : ∀ k, SB (w.heap.size + 2) ao l k → k ≠ w.heap.size ∧ k ≠ w.heap.size + 1 := by
    rintro k (hk | ⟨a, e, hl, rfl⟩)
    · omega
    · obtain ⟨a', e', hlt, _⟩ := h.2 hl
      rw [e] at e'; cases e'
      omega
  have hbW : BAt W0 ao l xs := h.only (Only.of_new (fun _ => False) zb) (fun _ _ _ h => h)
  have hseq := between_stops 4 (by omega) (w.heap.size + 1 + 1) (w.heap.size + 1 + 1 + 1) (w.heap.size + 1 + 1 + 1 + 1) f n hf hn ao l c xs W0 (SB (w.heap.size + 2) ao l) z2 z3 z4 hbW hx hbig (.inl (by omega)) (.inl (by omega)) (fun a e hl => .inr ⟨a, e, hl, rfl⟩)
  clear h hx hn hf hbW
  refine wpIn_rangeFunc_ownF rfl (by omega) (gf := 60) (lb := #[.pointer (some ⟨w.heap.size + 1 + 1 + 1, 0, none⟩), .pointer (some ⟨w.heap.size + 1 + 1 + 1 + 1, 0, none⟩), .pointer (some ⟨w.heap.size + 1 + 1, 0, none⟩)]) rfl trivial (enters_of Try.func60 (by kernel_rfl) rfl)
    hseq KpS_t (KpS_b hSlt) (Below.refl _ _) (fun _ => rfl)
    (FI xs w) (FX xs w) (by rw [zs]; exact FI_own xs w) (by rw [zs]; exact FX_own xs w) ?start
    (fun x => { tmps := #[.slice ao l c, .int .i64 n, .int .i64 f, undef, undef, undef, .pointer (some ⟨w.heap.size, 0, none⟩), .pointer (some ⟨w.heap.size + 1, 0, none⟩), .int .i64 (x : Nat), .bool (getN xs x), .slice ao l c, .int .i64 f, .int .i64 n,
      .func (.func 60) #[] #[.pointer (some ⟨w.heap.size + 1 + 1 + 1, 0, none⟩), .pointer (some ⟨w.heap.size + 1 + 1 + 1 + 1, 0, none⟩), .pointer (some ⟨w.heap.size + 1 + 1, 0, none⟩)],
      .int .i64 (x : Nat), .bool (getN xs x), undef, undef, undef], defers := [] }) ?assign ?body ?done ?stop
  case start => exact ⟨fun q hq => (by cases hq), z0, z1, zb, by omega⟩
  case assign =>
    intro l x W K hK
    dsimp only [bitV]
    gi_wp2
    exact hK
  case body =>
    rintro lp pre x W ⟨h0, h1, h2, hB, hsz⟩ hlen
    have hcell := blk_cell h1 0
    have hfree := blk_free h1 0
    have hcell2 := blk_cell h2 0
    have hfree2 := blk_free h2 0
    simp at hcell hcell2
    have HW := Hid.mk (And.intro h0 (And.intro h1 (And.intro h2 (And.intro hB hsz))))
    have HS := Hid.mk hSw
    clear h0 h1 h2 hB hsz hSw hSlt z0 z1 z2 z3 z4 zb zs hseq
    cases hg : getN xs x with
    | true =>
      have HG := Hid.mk hg
      clear hg
      gi_wp2
      obtain ⟨h0, h1, h2, hB, hsz⟩ := HW.out
      refine ⟨KeepsOthers.refl _, fun _ _ => rfl, ?_, h1, h2, hB, hsz⟩
      intro q hq
      rcases List.mem_append.1 hq with hq | hq
      · exact h0 q hq
      · rw [List.mem_singleton.1 hq]; exact HG.out
    | false =>
      have HG := Hid.mk hg
      clear hg
      gi_wp2
      obtain ⟨h0, h1, h2, hB, hsz⟩ := HW.out
      refine ⟨(KeepsOthers.setCell _ _ _).trans (KeepsOthers.setCell _ _ _), rfl, pre, x, rfl, h0, HG.out, ?_, ?_, (hB.setCell (p := ⟨w.heap.size, 0, none⟩) (Nat.le_refl _) _).setCell (p := ⟨w.heap.size + 1, 0, none⟩) (Nat.le_succ _) _, by simpa [World.setCell] using hsz⟩
      · rw [Below.heap_setCell _ _ _ _ (by simp), blk_set h1]
        simp
      · rw [blk_set (c := #[.bool false]) (by rw [Below.heap_setCell _ _ _ _ (by simp)]; exact h2)]
        simp
  case done =>
    rintro D ys W hD rfl ⟨h0, h1, h2, hB, hsz⟩ hK
    have HF := Hid.mk (fst_none h0)
    have hcell := blk_cell h1 0
    have hfree := blk_free h1 0
    have hcell2 := blk_cell h2 0
    have hfree2 := blk_free h2 0
    simp at hcell hcell2
    have HB := Hid.mk hB
    have HSZ := Hid.mk hsz
    have H1 := Hid.mk h1
    have H2 := Hid.mk h2
    clear h0 hB hsz h1 h2
    gi_wp2
    have k1 : ((W.setCell ⟨w.heap.size, 0, none⟩ (.int .i64 0)).setCell ⟨w.heap.size + 1, 0, none⟩ (.bool false)).heap[w.heap.size]? = some (.cells #[.int .i64 0] 3 (0, 0)) := by
      rw [Below.heap_setCell _ _ _ _ (by simp), blk_set H1.out]
      simp
    have k2 : ((W.setCell ⟨w.heap.size, 0, none⟩ (.int .i64 0)).setCell ⟨w.heap.size + 1, 0, none⟩ (.bool false)).heap[w.heap.size + 1]? = some (.cells #[.bool false] 4 (0, 0)) := by
      rw [blk_set (c := #[.bool false]) (by rw [Below.heap_setCell _ _ _ _ (by simp)]; exact H2.out)]
      simp
    have kB : Below w.heap.size w ((W.setCell ⟨w.heap.size, 0, none⟩ (.int .i64 0)).setCell ⟨w.heap.size + 1, 0, none⟩ (.bool false)) := (HB.out.setCell (p := ⟨w.heap.size, 0, none⟩) (Nat.le_refl _) _).setCell (p := ⟨w.heap.size + 1, 0, none⟩) (Nat.le_succ _) _
    have hK' := ((KeepsOthers.setCell W ⟨w.heap.size, 0, none⟩ (.int .i64 0)).trans (KeepsOthers.setCell _ ⟨w.heap.size + 1, 0, none⟩ (.bool false))).same D _ hK rfl
    generalize (W.setCell ⟨w.heap.size, 0, none⟩ (.int .i64 0)).setCell ⟨w.heap.size + 1, 0, none⟩ (.bool false) = W' at *
    have hnc : ∀ r, some D = some r → ∃ o : Obj, W'.heap[r]? = some o ∧ o.isCells = false := fun r e => by cases e; exact ⟨_, hK', rfl⟩
    have m1 : W'.cell? ⟨w.heap.size, 0, none⟩ = some (.int .i64 0) := by rw [blk_cell k1]; rfl
    have m2 : W'.cell? ⟨w.heap.size + 1, 0, none⟩ = some (.bool false) := by rw [blk_cell k2]; rfl
    have c1 := cell_kept m1 (grownBy_putObj' _ D (.deferred none)) hnc
    have c2 := cell_kept m2 (grownBy_putObj' _ D (.deferred none)) hnc
    refine ⟨by simp, .inl ⟨_, _, rfl, run_takeDeferred hK', ?_⟩⟩
    refine ⟨.tuple #[.int .i64 0, .bool false], ?_, ?_, ?_⟩
    · simp [results, Try.f44, go_sem, c1, c2]
    · rw [HF.out]; rfl
    · exact kB.trans (belowK_b (w := w) (Nat.le_refl _) W' D _ _ (by omega) hK' rfl rfl)
  case stop =>
    rintro D c pre W hD ⟨k, hk, hpre⟩ ⟨rfl, p, x, hp, h0, hx, h1, h2, hB, hsz⟩ hK
    rw [hpre] at hp
    have HF := Hid.mk (fst_some hk hp h0 hx)
    have HB := Hid.mk hB
    have H1 := Hid.mk h1
    have H2 := Hid.mk h2
    clear h0 hB h1 h2 hx hp hpre
    gi_wp2
    have hnc : ∀ r, some D = some r → ∃ o : Obj, W.heap[r]? = some o ∧ o.isCells = false := fun r e => by cases e; exact ⟨_, hK, rfl⟩
    have m1 : W.cell? ⟨w.heap.size, 0, none⟩ = some (.int .i64 x) := by rw [blk_cell H1.out]; rfl
    have m2 : W.cell? ⟨w.heap.size + 1, 0, none⟩ = some (.bool true) := by rw [blk_cell H2.out]; rfl
    have c1 := cell_kept m1 (grownBy_putObj' _ D (.deferred none)) hnc
    have c2 := cell_kept m2 (grownBy_putObj' _ D (.deferred none)) hnc
    refine ⟨by simp, .inl ⟨_, _, rfl, run_takeDeferred hK, ?_⟩⟩
    refine ⟨.tuple #[.int .i64 x, .bool true], ?_, ?_, ?_⟩
    · simp [results, Try.f44, go_sem, c1, c2]
    · rw [HF.out]; rfl
    · exact HB.out.trans (belowK_b (w := w) (Nat.le_refl _) W D _ _ (by omega) hK rfl rfl)
end Bt
end Go.Proofs.Ytjhfkcngaknbdaa
