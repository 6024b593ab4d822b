/-
  CachePlays: every row of calls, held against the model.
-/
import Derived.Test.YtmbhjheoomlggaaCaPq2
import Derived.Test.YtmbhjheoomlggaaCaOrder
namespace Go.Proofs.Ytmbhjheoomlggaa
open Go Go.Proofs Go.RowKit Go.Shelf
/-- A call that came in. -/
structure ActV where
  way : Int
  blk : Int
  v : Int
  n : Int
/-- A row of calls that came in. -/
def ActsAt (W : World) (ao : Option Addr) (n : Nat) (A : Nat → ActV) : Prop :=
  0 < n → ∃ ab off, ao = some ⟨ab, off, none⟩ ∧ ab < W.heap.size ∧ ∀ j, j < n → W.cell? ⟨ab, off + j * 4, none⟩ = some (.int .i64 (A j).way) ∧ W.cell? ⟨ab, off + j * 4 + 1, none⟩ = some (.int .i64 (A j).blk) ∧ W.cell? ⟨ab, off + j * 4 + 2, none⟩ = some (.int .i64 (A j).v) ∧ W.cell? ⟨ab, off + j * 4 + 3, none⟩ = some (.int .i64 (A j).n) ∧ (Lit.int .i64 (A j).blk).wf = true ∧ (A j).n ≤ 9223372036854775807
theorem pq_new {w W0 W1 W2 W3 W4 : World} {c d e sz : Nat} (b0 : Below w.heap.size w W0) (b1 : Below W0.heap.size W0 W1) (he : Dk.DiskAt (fun k => W1.heap.size ≤ k) W2 e (newS 8)) (b2 : Below W1.heap.size W1 W2) (hC : CdAt (fun k => (W0.heap.size ≤ k ∧ k < W1.heap.size) ∨ W2.heap.size ≤ k) W3 c d sz 0 [] (newS 8)) (b3 : Below W2.heap.size W2 W3) (b4 : Below W3.heap.size W3 W4) (hs : W4.heap.size = W3.heap.size + 1) (hm : W4.heap[W3.heap.size]? = some (.cells #[.slice none 0 0, .int .i64 (sz : Nat), ptV e, .int .i64 0] 31 (0, 0))) :
    Pq (fun _ => False) w W4 c d W3.heap.size e sz 0 [] (newS 8) 0 (.slice none 0 0) [] (newS 8) := by
  have s0 := b0.size
  have s1 := b1.size
  have s2 := b2.size
  have s3 := b3.size
  refine ⟨fun k => ((W0.heap.size ≤ k ∧ k < W1.heap.size) ∨ W2.heap.size ≤ k) ∧ k < W3.heap.size, fun k => k = W3.heap.size, fun k => W1.heap.size ≤ k ∧ k < W2.heap.size, ?_, ?_, ?_, ?_, ?_, ?_, ?_, ?_, ?_, ?_, ?_⟩
  · exact (hC.mono (fun k hk h => ⟨h, hk⟩)).below b4
  · exact ⟨rfl, hm, World.ownsRow_nil _ _ _ _, fun k hk => by simp [Value.ownBlock] at hk, fun m hm => by cases hm⟩
  · have h1 : Dk.DiskAt (fun k => W1.heap.size ≤ k ∧ k < W2.heap.size) W2 e (newS 8) := he.mono (fun k hk h => ⟨h, hk.lt⟩)
    exact h1.only (Only.of_new (fun _ => False) (b3.trans (b4.mono (by omega)))) (fun _ _ _ h => h)
  · intro k h1 h2; omega
  · intro k h1 h2; omega
  · intro k h1 h2; omega
  · intro k h1; exact ⟨by omega, by omega, id⟩
  · intro k h1; exact ⟨by omega, by omega, id⟩
  · intro k h1; exact ⟨by omega, by omega, id⟩
  · intro k h; exact h.elim
  · exact b0.trans ((b1.mono s0).trans ((b2.mono (by omega)).trans ((b3.mono (by omega)).trans (b4.mono (by omega)))))
theorem Ok.flags {i size : Nat} {reads : Int} {ks : List Kb} {s s' : Dk.DS} (h : Ok i size reads ks s) (he : s'.img = s.img ∧ s'.log = s.log) (h0 : 0 ≤ s'.left) (h1 : s'.left ≤ 9223372036854775807) : Ok (i + 1) size reads ks s' :=
  ⟨by rw [he.1]; exact h.img, h.r0, by have := h.r1; omega, by have := h.len; omega, fun x hx => by have := h.pins x hx; omega, ⟨by rw [he.2]; have := h.sane.log; omega, by rw [he.2]; exact h.sane.dat, h0, h1⟩, h.sta⟩
theorem ok_new (sz : Nat) : Ok 0 sz 0 [] (newS 8) := ⟨by rw [newS_len], by omega, by omega, Nat.le_refl _, (fun x hx => by cases hx), newS_sane _, sta_iff.2 (.inl (Nat.zero_le _))⟩
set_option maxRecDepth 100000 in
set_option maxHeartbeats 4000000 in
theorem plays_out (w : World) (size : Int) (ao : Option Addr) (n cc : Nat) (h : 200 < n) (hn : n ≤ 9223372036854775807) : Calls Try.prog 3 #[.int .i64 size, .slice ao n cc] w fun e w' => e = .returned (.bool true) ∧ Below w.heap.size w w' := by
  have HAL := Hid.mk (alive_any w)
  have h1 : (200 : Int) < (n : Int) := by omega
  go_enter Try.func3, Try.ntmps3
  go_wp2_with (go_at_call 8; refine HAL.out.mono ?_; rintro e w1 ⟨rfl, hb1⟩; have HB1 := Hid.mk hb1; clear hb1 HAL)
  go_ret
  exact ⟨rfl, HB1.out⟩
/-- The model's row, as a value. -/
theorem q_lv {X : Nat → Prop} {w W : World} {c d mm e size : Nat} {ra rm : Int} {ks : List Kb} {sa se : Dk.DS} {lv : Value} {ms : List Md} (h : Pq X w W c d mm e size ra ks sa rm lv ms se) : ∃ lo lc, lv = .slice lo ms.length lc ∧ ∀ W', Below W.heap.size W W' → W'.cell? ⟨mm, 0, none⟩ = some lv ∧ W'.cell? ⟨mm, 3, none⟩ = some (.int .i64 rm) ∧ ∀ i, i < ms.length → ∃ g, lo = some ⟨g, 0, none⟩ ∧ W'.cell? ⟨g, i * 4, none⟩ = some (.int .i64 (ms.getD i md0).kb.num) := by
  obtain ⟨lo, lc, hv⟩ : ∃ lo lc, lv = .slice lo ms.length lc := by
    obtain ⟨Fa, Fm, Fe, h⟩ := h
    rcases Nat.eq_zero_or_pos ms.length with h0 | h0
    · rcases h.mo.row.2 with ⟨hv, _⟩ | ⟨g, cap, cur, hv, _⟩
      · exact ⟨none, 0, by rw [hv, h0]⟩
      · exact ⟨_, _, hv⟩
    · obtain ⟨g, c, hv, _⟩ := h.mo.cells h0
      exact ⟨_, _, hv⟩
  refine ⟨lo, lc, hv, fun W' hB => ?_⟩
  obtain ⟨c0, c3, _, hc⟩ := q_cells (h.grow hB)
  refine ⟨c0, c3, fun i hi => ?_⟩
  obtain ⟨g, cp, hv2, _, hcc⟩ := hc i hi
  rw [hv] at hv2
  cases hv2
  exact ⟨g, rfl, (hcc i hi).1⟩
theorem take_nums (ms : List Md) (t : Nat) (ht : t < ms.length) : (ms.take (t + 1)).map (fun m => m.kb.num) = (ms.take t).map (fun m => m.kb.num) ++ [(ms.getD t md0).kb.num] := by
  rw [List.take_add_one, List.getElem?_eq_getElem ht, List.map_append]
  simp [List.getD, List.getElem?_eq_getElem ht]
end Go.Proofs.Ytmbhjheoomlggaa
