/-
  isKind, wordsOf and inodeOf of the program.
-/
import Derived.Test.YtehaoeclnmelhabGreatAll
namespace Go.Proofs.YtehaoeclnmelhabGreat
open Go Go.Proofs Go.RowKit Go.Shelf
def kindB (k : Int) : Bool := decide (k = 0 ∨ k = 1 ∨ k = 2)
set_option maxRecDepth 100000 in
/-- append onto a row of ints of one's own. -/
theorem appendi_run (W : World) (B : Nat) (v : Value) (n : Nat) (xs : List Int) (hown : W.ownsRow B 3 1 v n (Iy xs)) (hB : B ≤ W.heap.size) (a : Addr) (m c : Nat) (ys : List Int) (hy : LAt W (some a) m ys) (hn : n + m ≤ 16777216) :
    ∃ v' W', (Builtin.append_ #[42, 42] 42 #[v, .slice (some a) m c]).run Tryz.prog W = .ok v' W' ∧ W'.ownsRow B 3 1 v' (n + m) (Iy (xs ++ ys)) ∧ Below B W W' := by
  obtain ⟨i0, hi, hz0, hz1, hz2⟩ := info3p
  obtain ⟨v3, W3, hr, hown3, hg3, _⟩ := run_append_own (P := Tryz.prog) W B 42 42 3 i0 (.int .i64 0) 1 8 Tryz.underlying42 hi hz0 hz1 hz2 rfl (by decide) v n (Iy xs) hown a m c (Iy ys) (by rw [Iy_length, hy.1, Nat.mul_one]) (fun j u hj => by
    have hjl := (List.getElem?_eq_some_iff.1 hj).1
    rw [Iy_length] at hjl
    rw [Iy_get ys j hjl] at hj
    obtain ⟨a', e, hc⟩ := hy.at j (by rw [← hy.1]; exact hjl)
    cases e
    rw [hc]
    exact hj) (Iy_one _) (by unfold maxLen; omega) (by omega) hB
  have e : Iy xs ++ Iy ys = Iy (xs ++ ys) := by simp [Iy]
  rw [e] at hown3
  exact ⟨v3, W3, hr, hown3, (Below.refl _ W).grown hg3 hB (fun k hk => (hown.lt k hk).1)⟩
set_option maxRecDepth 100000 in
theorem owns_newi (W : World) (B : Nat) (xs : List Int) (hB : B ≤ W.heap.size) (hn : xs.length ≤ 16777216) : (W.alloc (.cells (Iy xs).toArray 3)).ownsRow B 3 1 (.slice (some ⟨W.heap.size, 0, none⟩) xs.length xs.length) xs.length (Iy xs) := by
  refine ⟨by rw [Iy_length, Nat.mul_one], .inr ⟨W.heap.size, xs.length, (Iy xs).toArray, rfl, hB, blk_new W _, Nat.le_refl _, by unfold maxLen; omega, by simp [Iy_length], ?_⟩⟩
  simp [List.take_of_length_le, Iy_length]
theorem lat_newi (W : World) (xs : List Int) : LAt (W.alloc (.cells (Iy xs).toArray 3)) (some ⟨W.heap.size, 0, none⟩) xs.length xs := QAt.lat (blk_new W _) rfl
set_option maxRecDepth 100000 in
theorem owns_LAt {w : World} {base : Nat} {v : Value} {n : Nat} {xs : List Int} (h : w.ownsRow base 3 1 v n (Iy xs)) (hn : 0 < n) : ∃ g c, v = .slice (some ⟨g, 0, none⟩) n c ∧ LAt w (some ⟨g, 0, none⟩) n xs ∧ base ≤ g := by
  obtain ⟨h1, h2⟩ := h
  rw [Iy_length, Nat.mul_one] at h1
  rcases h2 with ⟨rfl, rfl⟩ | ⟨g, cap, cur, rfl, hg, hh, hnc, hm, hsz, ht⟩
  · omega
  · refine ⟨g, cap, rfl, ⟨h1, fun _ => ⟨_, rfl, lt_of_block hh, fun i hi => ?_⟩⟩, hg⟩
    rw [add_at, blk_cell hh, Nat.zero_add]
    have e : cur.toList[i]? = (Iy xs)[i]? := by
      rw [← ht, List.getElem?_take, if_pos (by omega)]
    rw [← Array.getElem?_toList, e]
    exact Iy_get xs i (by omega)
set_option maxRecDepth 100000 in
theorem exec_append {P : Program} {ev : Operand → Value} {oi : Oper} {s x : Operand} {t u : TypeId} {v vx v' : Value} {w w' : World} (ho : oi.op = .call { callee := .builtin .append, args := #[s, x], argTypes := #[t, u] }) (hs : ev s = v) (hx : ev x = vx) (hrun : (Builtin.append_ #[t, u] oi.type #[v, vx]).run P w = .ok v' w') : (execOp ev oi).run P w = .ok (.value v') w' := by
  unfold execOp
  simp only [ho, resolve, invoke, builtin, Sem.run_bind, Sem.run_pure, Result.andThen_ok, List.map_toArray, List.map_cons, List.map_nil, hs, hx, hrun]
end Go.Proofs.YtehaoeclnmelhabGreat
