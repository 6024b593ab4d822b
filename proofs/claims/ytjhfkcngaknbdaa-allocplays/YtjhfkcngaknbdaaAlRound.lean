/-
  The groups, gone over once from one of them on.
-/
import Derived.Test.YtjhfkcngaknbdaaAlIn
import Derived.Test.YtjhfkcngaknbdaaAlSpec
import Derived.Test.YtjhfkcngaknbdaaBtFirst
namespace Go.Proofs.Ytjhfkcngaknbdaa
open Go Go.Proofs Go.RowKit Go.Shelf
attribute [local go_sem] Oper.semAt_some

/-- What round leaves: the two boxes of its function. -/
def RdAt (B : Nat) (G g0 : Nat) (W : World) : Prop := W.heap[B]? = some (.cells #[.int .i64 G] 3 (0, 0)) ∧ W.heap[B + 1]? = some (.cells #[.int .i64 g0] 3 (0, 0))
def rdF (B : Nat) : Value := .func (.func 54) #[] #[.pointer (some ⟨B, 0, none⟩), .pointer (some ⟨B + 1, 0, none⟩)]
set_option maxRecDepth 100000 in
theorem round_any (w : World) (G : Nat) (group : Int) :
    Calls Try.prog 43 #[.int .i64 G, .int .i64 group] w fun e w' => e = .returned (rdF w.heap.size) ∧ RdAt w.heap.size G (grpOf G group) w' ∧ w'.heap.size = w.heap.size + 2 ∧ Below w.heap.size w w' := by
  have HS : Hid (∀ x : Nat, RdAt w.heap.size G x ((w.alloc (.cells #[.int .i64 G] 3)).alloc (.cells #[.int .i64 x] 3)) ∧ Below w.heap.size w ((w.alloc (.cells #[.int .i64 G] 3)).alloc (.cells #[.int .i64 x] 3))) := Hid.mk (fun x => by
    have q1 := blk_new (w.alloc (.cells #[.int .i64 G] 3)) (.cells #[.int .i64 x] 3)
    simp only [World.size_alloc] at q1
    refine ⟨⟨?_, q1⟩, ((Below.refl _ w).alloc (Nat.le_refl _) _).alloc (by simp) _⟩
    rw [Below.heap_alloc _ _ _ (by simp)]; exact blk_new w _)
  by_cases h : 0 ≤ group ∧ group < G
  · obtain ⟨x, rfl⟩ : ∃ x : Nat, group = x := ⟨group.toNat, by omega⟩
    have hg : grpOf G (x : Int) = x := by unfold grpOf; rw [if_pos h]; simp
    rw [hg]
    obtain ⟨h1, h2⟩ := h
    have h3 : ¬ (x : Int) < 0 := by omega
    have h4 : ¬ (G : Int) ≤ x := by omega
    clear hg h1 h2
    go_enter Try.func43, Try.ntmps43
    go_wp2
    go_ret
    exact ⟨rfl, (HS.out x).1, by simp, (HS.out x).2⟩
  · have hg : grpOf G group = 0 := by unfold grpOf; rw [if_neg h]
    rw [hg]
    clear hg
    by_cases h0 : group < 0
    · clear h
      go_enter Try.func43, Try.ntmps43
      go_wp2
      go_ret
      exact ⟨rfl, (HS.out 0).1, by simp, (HS.out 0).2⟩
    · have h4 : (G : Int) ≤ group := by omega
      clear h
      go_enter Try.func43, Try.ntmps43
      go_wp2
      go_ret
      exact ⟨rfl, (HS.out 0).1, by simp, (HS.out 0).2⟩
/-- The group that comes up as the q-th. -/
def rdV (G g0 q : Nat) : Array Value := #[.int .i64 (((g0 + q) % G : Nat) : Int)]
theorem range_snoc (k : Nat) : List.range k ++ [k] = List.range (k + 1) := List.range_succ.symm
set_option maxRecDepth 100000 in
set_option maxHeartbeats 4000000 in
theorem round_stops (n : Nat) (hn : 1 ≤ n) (B G g0 : Nat) (hG : G ≤ 8) (h8 : g0 ≤ 8) (w : World) (S : Nat → Prop) (hR : RdAt B G g0 w) (hS0 : S B) (hS1 : S (B + 1)) :
    SeqStopsK Fence.wide n Try.prog 54 #[.pointer (some ⟨B, 0, none⟩), .pointer (some ⟨B + 1, 0, none⟩)] (rdV G g0) (Bt.KpS S) (fun ys => ys = List.range G) (fun pre => ∃ k, k < G ∧ pre = List.range (k + 1)) G w := fun lp J Jx W hW hJ hJx hY h0 => by
  have HJ := Hid.mk hJ
  have HY := Hid.mk hY
  have e1 : W.cell? ⟨B, 0, none⟩ = some (.int .i64 G) := by
    rw [hW.cell (p := ⟨B, 0, none⟩) (lt_of_block hR.1), blk_cell hR.1]; rfl
  have e2 : W.cell? ⟨B + 1, 0, none⟩ = some (.int .i64 g0) := by
    rw [hW.cell (p := ⟨B + 1, 0, none⟩) (lt_of_block hR.2), blk_cell hR.2]; rfl
  clear hJ hY hJx hW hR
  refine callsIn_of_wp Try.func54 rfl trivial ?_ rfl
  simp only [Try.ntmps54, List.size_toArray, List.length_cons, List.length_nil, Nat.reduceAdd, Nat.reduceSub, Array.replicate_succ, Array.replicate_zero, List.push_toArray, List.append_toArray, List.nil_append, List.cons_append]
  gi_wp2
  gi_loopw [6] (fun i wr => ∃ k : Nat, Hid (k ≤ G) ∧ i = .int .i64 k ∧ Hid (J (List.range k) wr) ∧ wr.cell? ⟨B, 0, none⟩ = some (.int .i64 G) ∧ wr.cell? ⟨B + 1, 0, none⟩ = some (.int .i64 g0)) (fun i _ => G - (intOf i).toNat)
  case atStart => exact ⟨0, Hid.mk (by omega), rfl, Hid.mk h0, e1, e2⟩
  case round =>
    obtain ⟨k, hk, rfl, hJk, g1, g2⟩ := hrel
    clear e1 e2 h0
    by_cases hlt : (k : Int) < (G : Int)
    · have hw1 : IntKind.i64.wrap ((g0 : Int) + k) = ((g0 + k : Nat) : Int) := by rw [IntKind.wrap_i64]; omega
      have hz : ¬ (G : Int) = 0 := by omega
      have hz2 : ((G : Int) == 0) = false := by simp; omega
      have hrem : Int.tmod ((g0 + k : Nat) : Int) (G : Int) = (((g0 + k) % G : Nat) : Int) := by rw [Int.tmod_eq_emod_of_nonneg (by omega)]; simp
      have hw2 : IntKind.i64.wrap ((((g0 + k) % G : Nat)) : Int) = (((g0 + k) % G : Nat) : Int) := by
        have := Nat.mod_lt (g0 + k) (show 0 < G by omega)
        rw [IntKind.wrap_i64]; omega
      have hw3 : IntKind.i64.wrap ((k : Int) + 1) = (k : Int) + 1 := by rw [IntKind.wrap_i64]; omega
      obtain ⟨fn, tmps, assign, body, hy, hR⟩ := HY.out (List.range k) k wr hJk.out (by simp; omega)
      rw [range_snoc] at hR
      have HR : Hid (RoundIn Fence.wide (n - 1) Try.prog lp fn tmps assign body wr fun e W' => ∃ b : Bool, e = .returned (.bool b) ∧
          Hid ((b = true ∧ J (List.range (k + 1)) W' ∧ Bt.KpS S wr W') ∨ (b = false ∧ Jx (List.range (k + 1)) W'))) :=
        hR.mono (fun e W' h => h.elim (fun h => ⟨true, h.1, .inl ⟨rfl, h.2.1, h.2.2⟩⟩) (fun h => ⟨false, h.1, .inr ⟨rfl, h.2⟩⟩))
      have HA : Hid (k < G ∧ G ≤ 8) := Hid.mk (by omega)
      dsimp only [rdV] at hy
      have HM : Hid (∀ W' : World, Bt.KpS S wr W' → W'.cell? ⟨B, 0, none⟩ = some (.int .i64 G) ∧ W'.cell? ⟨B + 1, 0, none⟩ = some (.int .i64 g0)) := Hid.mk (fun W' hK =>
        ⟨by rw [World.cell?_of_block (w := wr) (hK B hS0)]; exact g1, by rw [World.cell?_of_block (w := wr) (hK (B + 1) hS1)]; exact g2⟩)
      generalize ((((g0 + k) % G : Nat)) : Int) = r at *
      generalize hgk : (((g0 + k : Nat)) : Int) = gk at *
      clear hR hJk hk hgk HJ HY
      gi_wp2_with (first | (refine HR.out.mono ?_; rintro e W4 ⟨b, rfl, HC⟩) | (refine ⟨trivial, ?_⟩; refine HR.out.mono ?_; rintro e W4 ⟨b, rfl, HC⟩))
      · have hc : b = false := by
          rename_i h
          simpa using h
        have hx : Jx (List.range (k + 1)) W4 := by simpa [Hid, hc] using HC
        refine bodyPost_ret (results_none rfl _ _ _) rfl ?_
        exact ⟨⟨_, rfl⟩, .inr ⟨_, ⟨k, HA.out.1, rfl⟩, hx⟩⟩
      · have hc : b = true := by
          rename_i h
          simpa using h
        have hj : J (List.range (k + 1)) W4 ∧ Bt.KpS S wr W4 := by simpa [Hid, hc] using HC
        have hA := HA.out
        refine ⟨⟨k + 1, Hid.mk (by omega), rfl, Hid.mk hj.1, (HM.out _ hj.2).1, (HM.out _ hj.2).2⟩, ?_⟩
        clear HR HM HC hj hA hy
        have := HA.out
        simp [intOf]
        omega
    · have hk' := hk.out
      obtain rfl : k = G := by omega
      clear HY HJ hk'
      gi_wp2
      go_end0
      exact ⟨⟨_, rfl⟩, .inl hJk.out⟩
end Go.Proofs.Ytjhfkcngaknbdaa
