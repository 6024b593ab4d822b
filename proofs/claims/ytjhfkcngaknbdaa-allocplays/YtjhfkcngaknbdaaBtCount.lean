/-
  What Count and First do, for every row and number.
-/
import Derived.Test.YtjhfkcngaknbdaaBtBetween
namespace Go.Proofs.Ytjhfkcngaknbdaa
open Go Go.Proofs Go.RowKit Go.Shelf
namespace Bt
attribute [local go_sem] Oper.semAt_some
theorem KpS_t {S : Nat → Prop} {A B C : World} (h : KpS S A B) (k : KpS S B C) : KpS S A C := fun i hi => (k i hi).trans (h i hi)
set_option maxRecDepth 100000 in
theorem KpS_b {S : Nat → Prop} {w : World} (hS : ∀ k, S k → k < w.heap.size) (W : World) (l : Nat) (o o' : Obj) (hl : w.heap.size ≤ l) (_ : W.heap[l]? = some o) (_ : o.isCells = false) (_ : o.isWalk = false) : KpS S W (W.putObj l o') :=
  fun k hk => World.putObj_heap_other (by have := hS k hk; omega)
/-- The blocks that the iterator reads. -/
def SB (B : Nat) (ao : Option Addr) (l : Nat) (k : Nat) : Prop := (B ≤ k ∧ k < B + 3) ∨ ∃ a, ao = some a ∧ 0 < l ∧ k = a.block
set_option maxRecDepth 100000 in
theorem keep_cells {W W' : World} {row : Option Nat} {b : Nat} {c : Array Value} {t : TypeId} {fr : Nat × Nat} (h : W.heap[b]? = some (.cells c t fr)) (hg : W.grownBy W' row) (hr : ∀ r, row = some r → ∃ o : Obj, W.heap[r]? = some o ∧ o.isCells = false) : W'.heap[b]? = some (.cells c t fr) := by
  rw [hg.block b (lt_of_block h) (fun e => ?_), h]
  obtain ⟨o, ho, hc⟩ := hr b e.symm
  rw [h] at ho
  cases ho
  cases hc
/-- Between two rounds of Count's loop: the box of the count. -/
def CI (xs : List Int) (w : World) (pre : List Nat) (W : World) : Prop :=
  W.heap[w.heap.size]? = some (.cells #[.int .i64 ((pre.countP (getN xs) : Nat) : Int)] 3 (0, 0)) ∧ Below w.heap.size w W ∧ w.heap.size + 4 ≤ W.heap.size
theorem CI_own (xs : List Int) (w : World) : OwnFrom (w.heap.size + 4) (CI xs w) := by
  intro pre W W' row h hg hr
  obtain ⟨h1, h2, h3⟩ := h
  exact ⟨keep_cells h1 hg (fun r e => (hr r e).2), h2.grown hg h2.size (fun k e => by have := (hr k e).1; omega), Nat.le_trans h3 hg.size⟩
set_option maxRecDepth 100000 in
set_option maxHeartbeats 4000000 in
theorem count_any (w : World) (ao : Option Addr) (l c : Nat) (xs : List Int) (h : BAt w ao l xs) (hx : ∀ x ∈ xs, 0 ≤ x ∧ x ≤ 255) (hbig : l ≤ 140737488355328) (n : Int) (hn : I64 n) :
    Calls Try.prog 50 #[.slice ao l c, .int .i64 n] w fun e w' => e = .returned (.int .i64 (cntN xs (bndI xs n) : Nat)) ∧ Below w.heap.size w w' := by
  refine (callsIn_wide (n := 5)).1 ?_
  refine callsIn_of_wp_marks Try.func50 rfl trivial ?_ rfl
  simp only [Try.ntmps50, List.size_toArray, List.length_cons, List.length_nil, Nat.reduceAdd, Nat.reduceSub, Array.replicate_succ, Array.replicate_zero, List.push_toArray, List.append_toArray, List.nil_append, List.cons_append]
  gi_wp2_with (refine ⟨trivial, ?_⟩; gi_at_call 55; refine (callsIn_wide.2 (between_any _ _ _ _ _ _)).mono ?_; rintro e w' ⟨rfl, hw⟩; subst w')
  try simp only [World.size_alloc]
  have q0 := blk_new w (.cells #[.int .i64 0] 3)
  have q1 := blk_new (w.alloc (.cells #[.int .i64 0] 3)) (.cells #[.slice ao l c] 39)
  have q2 := blk_new ((w.alloc (.cells #[.int .i64 0] 3)).alloc (.cells #[.slice ao l c] 39)) (.cells #[.int .i64 0] 3)
  have q3 := blk_new (((w.alloc (.cells #[.int .i64 0] 3)).alloc (.cells #[.slice ao l c] 39)).alloc (.cells #[.int .i64 0] 3)) (.cells #[.int .i64 n] 3)
  simp only [World.size_alloc] at q1 q2 q3
  obtain ⟨W0, hW0⟩ : ∃ W0, W0 = (((w.alloc (.cells #[.int .i64 0] 3)).alloc (.cells #[.slice ao l c] 39)).alloc (.cells #[.int .i64 0] 3)).alloc (.cells #[.int .i64 n] 3) := ⟨_, rfl⟩
  have z0 : W0.heap[w.heap.size]? = some (.cells #[.int .i64 0] 3 (0, 0)) := by
    rw [hW0, Below.heap_alloc _ _ _ (by simp; omega), Below.heap_alloc _ _ _ (by simp; omega), Below.heap_alloc _ _ _ (by simp)]; exact q0
  have z1 : W0.heap[w.heap.size + 1]? = some (.cells #[.slice ao l c] 39 (0, 0)) := by
    rw [hW0, Below.heap_alloc _ _ _ (by simp), Below.heap_alloc _ _ _ (by simp)]; exact q1
  have z2 : W0.heap[w.heap.size + 1 + 1]? = some (.cells #[.int .i64 0] 3 (0, 0)) := by
    rw [hW0, Below.heap_alloc _ _ _ (by simp)]; exact q2
  have z3 : W0.heap[w.heap.size + 1 + 1 + 1]? = some (.cells #[.int .i64 n] 3 (0, 0)) := by rw [hW0]; exact q3
  have zs : W0.heap.size = w.heap.size + 4 := by rw [hW0]; simp
  have zb : Below w.heap.size w W0 := by
    rw [hW0]
    exact ((((Below.refl _ w).alloc (Nat.le_refl _) _).alloc (by simp) _).alloc (by simp; omega) _).alloc (by simp; omega) _
  rw [← hW0]
  clear q0 q1 q2 q3 hW0
  have hbm : bMany xs 0 n ≤ 8 * l := by unfold bMany bndI; rw [h.1]; omega
  have HBM : bMany xs 0 n = bndI xs n := by unfold bMany bFrom; simp
  have hSlt : ∀ k, SB (w.heap.size + 1) ao l k → k < W0.heap.size := by
    rintro k (hk | ⟨a, e, hl, rfl⟩)
    · omega
    · obtain ⟨a', e', hlt, _⟩ := h.2 hl
      rw [e] at e'; cases e'
      omega
  have hSw : ∀ k, SB (w.heap.size + 1) ao l k → k ≠ w.heap.size := by
    rintro k (hk | ⟨a, e, hl, rfl⟩)
    · omega
    · obtain ⟨a', e', hlt, _⟩ := h.2 hl
      rw [e] at e'; cases e'
      omega
  have hbW : BAt W0 ao l xs := h.only (Only.of_new (fun _ => False) zb) (fun _ _ _ h => h)
  have hseq := between_stops 4 (by omega) (w.heap.size + 1) (w.heap.size + 1 + 1) (w.heap.size + 1 + 1 + 1) 0 n ⟨by omega, by omega⟩ hn ao l c xs W0 (SB (w.heap.size + 1) ao l) z1 z2 z3 hbW hx hbig (.inl (by omega)) (.inl (by omega)) (fun a e hl => .inr ⟨a, e, hl, rfl⟩)
  clear h hx hn hbW
  refine wpIn_rangeFunc_ownF rfl (by omega) (gf := 60) (lb := #[.pointer (some ⟨w.heap.size + 1 + 1, 0, none⟩), .pointer (some ⟨w.heap.size + 1 + 1 + 1, 0, none⟩), .pointer (some ⟨w.heap.size + 1, 0, none⟩)]) rfl trivial (enters_of Try.func60 (by kernel_rfl) rfl)
    hseq KpS_t (KpS_b hSlt) (Below.refl _ _) (fun _ => rfl)
    (CI xs w) (fun _ _ _ => False) (by rw [zs]; exact CI_own xs w) (fun _ _ _ _ _ hs _ _ => hs) ?start
    (fun x => { tmps := #[.slice ao l c, .int .i64 n, undef, undef, .int .i64 0, .pointer (some ⟨w.heap.size, 0, none⟩), undef, .bool (getN xs x), .slice ao l c, .int .i64 n,
      .func (.func 60) #[] #[.pointer (some ⟨w.heap.size + 1 + 1, 0, none⟩), .pointer (some ⟨w.heap.size + 1 + 1 + 1, 0, none⟩), .pointer (some ⟨w.heap.size + 1, 0, none⟩)],
      .int .i64 x, .bool (getN xs x), undef, undef, undef, undef], defers := [] }) ?assign ?body ?done ?stop
  case start => exact ⟨z0, zb, by omega⟩
  case assign =>
    intro l x W K hK
    dsimp only [bitV]
    gi_wp2
    exact hK
  case body =>
    rintro lp pre x W ⟨h1, hB, hsz⟩ hlen
    have hcell := blk_cell h1 0
    have hfree := blk_free h1 0
    simp at hcell
    have hcnt : pre.countP (getN xs) ≤ pre.length := List.countP_le_length
    have hcc : (pre ++ [x]).countP (getN xs) = pre.countP (getN xs) + (if getN xs x = true then 1 else 0) := by rw [List.countP_append]; simp [List.countP_cons]
    have HW := Hid.mk (And.intro h1 (And.intro hB hsz))
    have HC := Hid.mk hcc
    have HS := Hid.mk hSw
    obtain ⟨C, hC⟩ : ∃ C, C = pre.countP (getN xs) := ⟨_, rfl⟩
    rw [← hC] at hcell hcnt
    have hwr : IntKind.i64.wrap ((C : Int) + 1) = (C : Int) + 1 := by rw [IntKind.wrap_i64]; omega
    have HCC := Hid.mk hC
    clear h1 hB hsz hcc hSw hC hSlt z0 z1 z2 z3 zb zs hseq hbm HBM
    cases hg : getN xs x with
    | false =>
      rw [hg] at HC
      gi_wp2
      obtain ⟨h1, hB, hsz⟩ := HW.out
      refine ⟨KeepsOthers.refl _, fun _ _ => rfl, ?_, hB, hsz⟩
      rw [HC.out]
      simpa using h1
    | true =>
      rw [hg] at HC
      gi_wp2
      obtain ⟨h1, hB, hsz⟩ := HW.out
      refine ⟨KeepsOthers.setCell _ _ _, fun k hk => Below.heap_setCell _ _ _ _ (HS.out k hk), ?_, hB.setCell (p := ⟨w.heap.size, 0, none⟩) (Nat.le_refl _) _, by simpa [World.setCell] using hsz⟩
      rw [HC.out, blk_set h1, HCC.out]
      simp
  case done =>
    rintro D ys W hD rfl ⟨h1, hB, hsz⟩ hK
    have hcell := blk_cell h1 0
    simp at hcell
    have e0 : (List.range' (bFrom 0) (bMany xs 0 n)).countP (getN xs) = cntN xs (bndI xs n) := by
      rw [HBM]
      unfold cntN bFrom
      rw [List.range_eq_range']
      rfl
    rw [e0] at hcell
    clear e0 h1
    gi_wp2
    refine ⟨by simp, .inl ⟨_, _, rfl, run_takeDeferred hK, ?_⟩⟩
    exact ⟨_, results_tmp rfl _ _ _, rfl, hB.trans (belowK_b (w := w) (Nat.le_refl _) W D _ _ (by omega) hK rfl rfl)⟩
  case stop =>
    rintro D c pre W _ _ h _
    exact h.elim
end Bt
end Go.Proofs.Ytjhfkcngaknbdaa
