/-
  Rows of those that wait: empty, first, drop, push.
-/
import Derived.Test.YtoediflikoedaaaLkRead
import Derived.ArgAppend
import Derived.Maps.AppendAt
namespace Go.Proofs.Ytoediflikoedaaa
open Go Go.Proofs Go.RowKit Go.Shelf
attribute [local go_sem] Oper.semAt_some
theorem info31 : (Try.prog.info? 31).map (fun i => (i.zero, i.size, i.bytes)) = some (some (lkV Lk.zero), 3, 24) := by kernel_rfl
theorem info31p : ∃ i0, Try.prog.info? 31 = some i0 ∧ i0.zero = some (lkV Lk.zero) ∧ i0.size = 3 ∧ i0.bytes = 24 := by
  cases h : Try.prog.info? 31 with
  | none => have := info31; rw [h] at this; cases this
  | some i =>
    have h2 := info31
    rw [h] at h2
    simp at h2
    exact ⟨i, rfl, h2.1, h2.2⟩
theorem lkC_one (l : Lk) : ∀ u ∈ lkC l, u.oneCell' = true := by
  intro u hu
  simp [lkC] at hu
  rcases hu with rfl | rfl | rfl <;> rfl
theorem RwAt.of_owns {W : World} {B : Nat} {v : Value} {L : List Lk} (h : W.ownsRow B 31 3 v L.length (Ly L)) (hL : L ≠ []) : ∃ g, v.ownBlock = some g ∧ B ≤ g ∧ RwAt W g v L := by
  rcases h.2 with ⟨_, h0⟩ | ⟨g, cap, cur, rfl, hg, hh, h1, h2, h3, h4⟩
  · exact absurd (List.eq_nil_of_length_eq_zero h0) hL
  · refine ⟨g, rfl, hg, 0, cap, cur, rfl, hh, h1, by omega, h2, fun j u hj => ?_⟩
    have hjl : j < L.length * 3 := by
      have := (List.getElem?_eq_some_iff.1 hj).1
      rwa [Ly_length] at this
    rw [Nat.zero_add, ← hj, ← h4, List.getElem?_take, if_pos hjl, Array.getElem?_toList]
def SlOk (W : World) (v : Value) (L : List Lk) : Prop := (v = .slice none 0 0 ∧ L = []) ∨ ∃ g, v.ownBlock = some g ∧ RwAt W g v L
theorem SlOk.slice {W : World} {v : Value} {L : List Lk} (h : SlOk W v L) : ∃ ao cap, v = .slice ao L.length cap := by
  rcases h with ⟨rfl, rfl⟩ | ⟨g, _, off, cap, cur, rfl, _⟩
  · exact ⟨none, 0, rfl⟩
  · exact ⟨_, _, rfl⟩
/-- append(list, l). -/
theorem appendl {W : World} {v : Value} {L : List Lk} (h : SlOk W v L) (l : Lk) (hn : L.length ≤ 1000000) :
    ∃ v' g' W', (Builtin.append_ #[27, 27] 27 #[v, .slice (some ⟨W.heap.size, 0, none⟩) 1 1]).run Try.prog (W.alloc (.cells (lkC l).toArray 31)) = .ok v' W' ∧ v'.ownBlock = some g' ∧ RwAt W' g' v' (L ++ [l]) ∧ (v.ownBlock = some g' ∨ W.heap.size < g') ∧ Only (fun k => k = g') W W' := by
  obtain ⟨i0, hi, hz0, hz1, hz2⟩ := info31p
  have hnew := blk_new W (.cells (lkC l).toArray 31)
  have hnews : ∀ j u, (lkC l)[j]? = some u → (W.alloc (.cells (lkC l).toArray 31)).cell? ((⟨W.heap.size, 0, none⟩ : Addr).add j) = some u := fun j u hj => by
    match j, hj with
    | 0, hj => cases hj; rw [add_at, blk_cell hnew]; rfl
    | 1, hj => cases hj; rw [add_at, blk_cell hnew]; rfl
    | 2, hj => cases hj; rw [add_at, blk_cell hnew]; rfl
  have hlen1 : (L ++ [l]).length = L.length + 1 := by simp
  have hLy : Ly (L ++ [l]) = Ly L ++ lkC l := by rw [Ly_append]; simp [Ly]
  rcases h with ⟨rfl, rfl⟩ | ⟨g, hg, off, cap, cur, rfl, hh, h1, h2, h3, h4⟩
  · obtain ⟨v', W', hr, hown, hgr, _, _⟩ := run_append_own_at (P := Try.prog) (W.alloc (.cells (lkC l).toArray 31)) (W.heap.size + 1) 27 27 31 i0 (lkV Lk.zero) 3 24 Try.underlying27 hi hz0 hz1 hz2 rfl (by decide) (.slice none 0 0) 0 [] (World.ownsRow_nil _ _ _ _) ⟨W.heap.size, 0, none⟩ 1 1 (lkC l) rfl hnews (lkC_one l) (by unfold maxLen; omega) (by omega) (by simp)
    have hown' : W'.ownsRow (W.heap.size + 1) 31 3 v' ([] ++ [l]).length (Ly ([] ++ [l])) := by
      have : Ly ([] ++ [l]) = [] ++ lkC l := by simp [Ly]
      rw [this]
      exact hown
    obtain ⟨g', e1, e2, e3⟩ := RwAt.of_owns hown' (by simp)
    exact ⟨v', g', W', hr, e1, e3, .inr (by omega), ((Only.refl _ W).alloc _).grown hgr (fun k hk => by cases hk)⟩
  · have hgl := lt_of_block hh
    have hh1 : (W.alloc (.cells (lkC l).toArray 31)).heap[g]? = some (.cells cur 31 (0, 0)) := (Below.heap_alloc _ _ _ hgl).trans hh
    by_cases hroom : L.length + 1 ≤ cap
    · have hr := run_append_room_cells (P := Try.prog) (W.alloc (.cells (lkC l).toArray 31)) 27 27 31 i0 Try.underlying27 hi _ off L.length cap ⟨W.heap.size, 0, none⟩ 1 1 (lkC l) (by rw [hz1]; rfl) hnews (lkC_one l) hroom (fun j hj => by
        have hj3 : j < 3 := hj
        rw [blk_cell hh1, hz1]
        have : off + L.length * 3 + j < cur.size := by omega
        simp [this]) (fun j _ => blk_free hh1 _)
      rw [hz1] at hr
      refine ⟨_, _, _, hr, rfl, ?_, .inl rfl, ?_⟩
      · have b1 := blk_set (i := off + L.length * 3) (u := .int .i64 l.th) hh1
        have b2 := blk_set (i := off + L.length * 3 + 1) (u := .int .i64 l.tg) b1
        have b3 := blk_set (i := off + L.length * 3 + 1 + 1) (u := .bool l.al) b2
        refine ⟨off, cap, _, by rw [hlen1], b3, by rw [hlen1]; exact hroom, by simp [h2], h3, fun j u hj => ?_⟩
        rw [hLy] at hj
        by_cases hjl : j < (Ly L).length
        · rw [List.getElem?_append_left hjl] at hj
          have := h4 j u hj
          rw [Ly_length] at hjl
          rw [Array.getElem?_setIfInBounds_ne (by omega), Array.getElem?_setIfInBounds_ne (by omega), Array.getElem?_setIfInBounds_ne (by omega)]
          exact this
        · rw [List.getElem?_append_right (by omega), Ly_length] at hj
          rw [Ly_length] at hjl
          obtain ⟨d, rfl⟩ : ∃ d, j = L.length * 3 + d := ⟨j - L.length * 3, by omega⟩
          rw [Nat.add_sub_cancel_left] at hj
          match d, hj with
          | 0, hj =>
            cases hj
            rw [Array.getElem?_setIfInBounds_ne (by omega), Array.getElem?_setIfInBounds_ne (by omega), show off + (L.length * 3 + 0) = off + L.length * 3 by omega, Array.getElem?_setIfInBounds_self_of_lt (by omega)]
          | 1, hj =>
            cases hj
            rw [Array.getElem?_setIfInBounds_ne (by omega), show off + (L.length * 3 + 1) = off + L.length * 3 + 1 by omega, Array.getElem?_setIfInBounds_self_of_lt (by simp; omega)]
          | 2, hj =>
            cases hj
            rw [show off + (L.length * 3 + 2) = off + L.length * 3 + 1 + 1 by omega, Array.getElem?_setIfInBounds_self_of_lt (by simp; omega)]
      · show Only (fun k => k = g) W ((((W.alloc (.cells (lkC l).toArray 31)).setCell ⟨g, off + L.length * 3, none⟩ (.int .i64 l.th)).setCell ⟨g, off + L.length * 3 + 1, none⟩ (.int .i64 l.tg)).setCell ⟨g, off + L.length * 3 + 1 + 1, none⟩ (.bool l.al))
        exact ((((Only.refl (fun k => k = g) W).alloc _).setCell (p := ⟨g, off + L.length * 3, none⟩) (.inl rfl) _).setCell (p := ⟨g, off + L.length * 3 + 1, none⟩) (.inl rfl) _).setCell (p := ⟨g, off + L.length * 3 + 1 + 1, none⟩) (.inl rfl) _
    · obtain ⟨v', W', hr, hown, hgr⟩ := run_append_arg_grows (P := Try.prog) (W.alloc (.cells (lkC l).toArray 31)) 27 27 31 i0 (lkV Lk.zero) 3 24 Try.underlying27 hi hz0 hz1 hz2 rfl (by decide) ⟨_, off, none⟩ L.length cap (Ly L) (by rw [Ly_length]) (fun j u hj => by rw [add_at, blk_cell hh1]; exact h4 j u hj) ⟨W.heap.size, 0, none⟩ 1 1 (lkC l) rfl hnews (by omega) (by unfold maxLen; omega) (by omega)
      rw [← hLy, ← hlen1] at hown
      obtain ⟨g', e1, e2, e3⟩ := RwAt.of_owns hown (by simp)
      have e2' : W.heap.size + 1 ≤ g' := by simpa using e2
      exact ⟨v', g', W', hr, e1, e3, .inr (by omega), ((Only.refl _ W).alloc _).grown hgr (fun k hk => by cases hk)⟩
set_option maxRecDepth 100000 in
theorem empty_any (w : World) (b : Nat) (ao : Option Addr) (n c : Nat) (hb : w.heap[b]? = some (.cells #[.slice ao n c] 76 (0, 0))) : Calls Try.prog 31 #[ptV b] w fun e w' => e = .returned (.bool (decide (n = 0))) ∧ w' = w := by
  have c0 : w.cell? ⟨b, 0, none⟩ = some (.slice ao n c) := by rw [blk_cell hb]; rfl
  have e1 : decide (n = 0) = ((n : Int) == 0) := by
    cases n with
    | zero => rfl
    | succ k => simp; omega
  rw [e1]
  go_enter Try.func31, Try.ntmps31
  go_wp2
  go_ret
  exact ⟨rfl, rfl⟩
set_option maxRecDepth 100000 in
set_option maxHeartbeats 2000000 in
theorem first_any (w : World) (b g off n c : Nat) (l : Lk) (hgl : g < w.heap.size) (hb : w.heap[b]? = some (.cells #[.slice (some ⟨g, off, none⟩) (n + 1) c] 76 (0, 0))) (x0 : w.cell? ⟨g, off, none⟩ = some (.int .i64 l.th)) (x1 : w.cell? ⟨g, off + 1, none⟩ = some (.int .i64 l.tg)) (x2 : w.cell? ⟨g, off + 2, none⟩ = some (.bool l.al)) :
    Calls Try.prog 32 #[ptV b] w fun e w' => e = .returned (lkV l) ∧ Below w.heap.size w w' := by
  have hbl := lt_of_block hb
  have c0 : w.cell? ⟨b, 0, none⟩ = some (.slice (some ⟨g, off, none⟩) (n + 1) c) := by rw [blk_cell hb]; rfl
  have g2 : (0 : Int) < ((n + 1 : Nat) : Int) := by omega
  have e1 : (⟨g, off, none⟩ : Addr).add 0 = ⟨g, off, none⟩ := by rw [add_at]; simp
  clear hb
  obtain ⟨th, tg, al⟩ := l
  unfold lkV
  go_enter Try.func32, Try.ntmps32
  go_wp2
  have hbl : (w.alloc (.cells #[.int .i64 th, .int .i64 tg, .bool al] 31)).heap[w.heap.size]? = some (.cells #[.int .i64 th, .int .i64 tg, .bool al] 31) := blk_new w _
  refine bodyPost_ret (results_lk (a := 2) (b := w.heap.size) (l := ⟨th, tg, al⟩) Try.results32 rfl ?_ ?_ ?_) rfl ⟨rfl, (Below.refl _ w).alloc (Nat.le_refl _) _⟩
  · rw [blk_cell hbl]; rfl
  · rw [blk_cell hbl]; rfl
  · rw [blk_cell hbl]; rfl
set_option maxRecDepth 100000 in
set_option maxHeartbeats 2000000 in
theorem rdrop_any (w : World) (b g off n c : Nat) (hb : w.heap[b]? = some (.cells #[.slice (some ⟨g, off, none⟩) (n + 1) (c + 1)] 76 (0, 0))) (hn : n ≤ c) :
    Calls Try.prog 33 #[ptV b] w fun e w' => e = .returned (.tuple #[]) ∧ ∃ off', (c = 0 ∨ off' = off + 3) ∧ off' ≤ off + 3 ∧ w' = w.setCell ⟨b, 0, none⟩ (.slice (some ⟨g, off', none⟩) n c) := by
  have c0 : w.cell? ⟨b, 0, none⟩ = some (.slice (some ⟨g, off, none⟩) (n + 1) (c + 1)) := by rw [blk_cell hb]; rfl
  have f0 : w.frozen? ⟨b, 0, none⟩ = false := blk_free hb 0
  have g2 : (1 : Int) ≤ ((n + 1 : Nat) : Int) := by omega
  have g3 : ((n + 1 : Nat) : Int) ≤ ((c + 1 : Nat) : Int) := by omega
  have e1 : (⟨g, off, none⟩ : Addr).add (1 * 3) = ⟨g, off + 3, none⟩ := by rw [add_at]
  clear hb
  cases c with
  | zero =>
    obtain rfl : n = 0 := by omega
    go_enter Try.func33, Try.ntmps33
    go_wp2
    go_end0
    exact ⟨rfl, off, by simp, by omega, rfl⟩
  | succ c =>
    go_enter Try.func33, Try.ntmps33
    go_wp2
    go_end0
    exact ⟨rfl, off + 3, .inr rfl, by omega, rfl⟩
end Go.Proofs.Ytoediflikoedaaa
