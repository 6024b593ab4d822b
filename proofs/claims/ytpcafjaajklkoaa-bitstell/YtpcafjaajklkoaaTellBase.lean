/-
  BitsTell: the rows that lie side by side.
-/
import Derived.Test.YtpcafjaajklkoaaOrders
import Derived.Test.YtpcafjaajklkoaaRefWith
namespace Go.Proofs.Ytpcafjaajklkoaa
open Go Go.Proofs Go.RowKit Go.Shelf

theorem cell_in {w : World} {a : Addr} {v : Value} (h : w.cell? a = some v) : a.block < w.heap.size := by
  rcases Nat.lt_or_ge a.block w.heap.size with h' | h'
  · exact h'
  · simp [World.cell?, Array.getElem?_eq_none h'] at h

/-- append(append([]byte(nil), b...), 77): its two runs, and the row that it makes. -/
theorem own_runs (W : World) (ao : Option Addr) (n c : Nat) (xs : List Int) (h : BAt W ao n xs) (hn : n ≤ 2000) (hnone : ao = none → n = 0 ∧ c = 0) :
    ∃ v1 W1 g cap W3, (Builtin.append_ #[22, 22] 22 #[.slice none 0 0, .slice ao n c]).run Try.prog W = .ok v1 W1 ∧
      (Builtin.append_ #[22, 22] 22 #[v1, .slice (some ⟨W1.heap.size, 0, none⟩) 1 1]).run Try.prog (W1.alloc (.cells #[.int .u8 77] 5)) = .ok (.slice (some ⟨g, 0, none⟩) (n + 1) cap) W3 ∧
      W3.ownsRow W.heap.size 5 1 (.slice (some ⟨g, 0, none⟩) (n + 1) cap) (n + 1) (By (xs ++ [77])) ∧ Below W.heap.size W W3 := by
  obtain ⟨i0, hi, hz0, hz1, hz2⟩ := info5p
  obtain ⟨v1, W1, h1, hown1, hg1⟩ := append_nil_run W ao n c xs h (by omega) hnone
  have hB1 : Below W.heap.size W W1 := (Below.refl _ W).grown hg1 (Nat.le_refl _) (by simp)
  have hown2 : (W1.alloc (.cells #[.int .u8 77] 5)).ownsRow W.heap.size 5 1 v1 n (By xs) := hown1.alloc _
  have hnew := blk_new W1 (.cells #[.int .u8 77] 5)
  obtain ⟨v3, W3, hr, hown3, hg3, _⟩ := run_append_own (P := Try.prog) (W1.alloc (.cells #[.int .u8 77] 5)) W.heap.size 22 22 5 i0 (.int .u8 0) 1 1 Try.underlying22 hi hz0 hz1 hz2 rfl (by decide) v1 n (By xs) hown2 ⟨W1.heap.size, 0, none⟩ 1 1 [.int .u8 77] rfl (fun j u hj => by
    match j, hj with
    | 0, hj =>
      cases hj
      rw [add_at, blk_cell hnew]; rfl) (by simp [Value.oneCell']) (by unfold maxLen; omega) (by omega) (by have := hB1.size; simp; omega)
  have e : By xs ++ [.int .u8 77] = By (xs ++ [77]) := by simp [By]
  rw [e] at hown3
  obtain ⟨g, cap, rfl, -⟩ := owns_bytes hown3 (by rintro rfl; rcases hown3.2 with h2 | ⟨_, _, _, h2, _⟩; omega; cases h2)
  refine ⟨v1, W1, g, cap, W3, h1, hr, hown3, ?_⟩
  refine (hB1.alloc hB1.size _).grown hg3 (by have := hB1.size; simp; omega) (fun k hk => ?_)
  rcases hown1.2 with ⟨e1, _⟩ | ⟨g1, _, _, e1, hg1', _⟩
  · rw [e1] at hk; simp [Value.ownBlock] at hk
  · rw [e1] at hk; simp [Value.ownBlock] at hk; omega

/-- The row that was handed in, and its copy with 77 behind it. -/
def TB (w : World) (xs : List Int) (ao : Option Addr) (n : Nat) (ga : Addr) (W : World) : Prop :=
  BAt W ao n xs ∧ BAt W (some ga) n xs ∧ W.cell? (ga.add n) = some (.int .u8 77) ∧ Below w.heap.size w W

theorem TB.below {w : World} {xs : List Int} {ao : Option Addr} {n : Nat} {ga : Addr} {W W' : World} (h : TB w xs ao n ga W) (hb : Below W.heap.size W W') : TB w xs ao n ga W' := by
  obtain ⟨h1, h2, h3, h4⟩ := h
  refine ⟨h1.only (Only.of_new (fun _ => False) hb) (fun _ _ _ h => h), h2.only (Only.of_new (fun _ => False) hb) (fun _ _ _ h => h), ?_, h4.trans (hb.mono h4.size)⟩
  rw [World.cell?_of_block (w := W) (hb.block _ (cell_in h3))]
  exact h3

theorem TB.only {w : World} {xs : List Int} {ao : Option Addr} {n : Nat} {ga : Addr} {W W' : World} {S : Nat → Prop} (h : TB w xs ao n ga W) (ho : Only S W W') (hS : ∀ k, S k → k ≠ ga.block ∧ w.heap.size ≤ k ∧ ∀ a, ao = some a → 0 < n → k ≠ a.block) : TB w xs ao n ga W' := by
  obtain ⟨h1, h2, h3, h4⟩ := h
  have hga : W'.heap[ga.block]? = W.heap[ga.block]? := ho.block _ (by have := cell_in h3; rwa [add_block] at this) (fun hs => (hS _ hs).1 rfl)
  refine ⟨?_, ?_, ?_, h4.trans (ho.below h4.size (fun k hk => (hS k hk).2.1))⟩
  · refine h1.kept (fun a e hn => ho.block _ ?_ (fun hs => (hS _ hs).2.2 a e hn rfl))
    obtain ⟨a', e', hlt, _⟩ := h1.2 hn
    rw [e] at e'; cases e'
    exact hlt
  · exact h2.kept (fun a e _ => by cases e; exact hga)
  · rw [World.cell?_of_block (w := W) (by rw [add_block]; exact hga)]
    exact h3

theorem TB.drewN {w : World} {xs : List Int} {ao : Option Addr} {n : Nat} {ga : Addr} {W : World} (h : TB w xs ao n ga W) (m : Nat) : TB w xs ao n ga (W.drewN m) :=
  h.below ⟨rfl, rfl, rfl, Nat.le_refl _, fun _ _ => rfl⟩

theorem own_TB {w W W3 : World} {ao : Option Addr} {n g cap : Nat} {xs : List Int} (hb : BAt w ao n xs) (hB : Below w.heap.size w W) (hown : W3.ownsRow W.heap.size 5 1 (.slice (some ⟨g, 0, none⟩) (n + 1) cap) (n + 1) (By (xs ++ [77]))) (hB3 : Below W.heap.size W W3) :
    TB w xs ao n ⟨g, 0, none⟩ W3 ∧ n + 1 ≤ cap := by
  obtain ⟨g', cap', e, hg, hlt, hcap, hl, hc⟩ := owns_bytes hown (by simp)
  cases e
  have hl' := hb.1
  refine ⟨⟨hb.only (Only.of_new (fun _ => False) (hB.trans (hB3.mono hB.size))) (fun _ _ _ h => h), ⟨hb.1, fun _ => ⟨_, rfl, hlt, fun i hi => ?_⟩⟩, ?_, hB.trans (hB3.mono hB.size)⟩, hcap⟩
  · rw [hc i (by omega)]
    simp [List.getD, List.getElem?_append_left (show i < xs.length by omega)]
  · rw [hc n (by omega)]
    simp [List.getD, ← hl']

theorem tell_long (w : World) (ao : Option Addr) (n c : Nat) (i m f : Int) (on : Bool) (hn : 2000 < n) (hn2 : n ≤ 9223372036854775807) :
    Calls Try.prog 3 #[.slice ao n c, .int .i64 i, .int .i64 m, .int .i64 f, .bool on] w fun e w' => e = .returned (.bool true) ∧ Below w.heap.size w w' := by
  have HA := Hid.mk (alive_any w)
  have h5 : (2000 : Int) < (n : Int) := by omega
  go_enter Try.func3, Try.ntmps3
  go_wp2_with (go_at_call 6; refine HA.out.mono ?_; rintro e w1 ⟨rfl, hB⟩)
  go_ret
  exact ⟨rfl, hB⟩
end Go.Proofs.Ytpcafjaajklkoaa
