/-
  What the iterator over a block's two sectors hands over, for every loop body.
-/
import Derived.Test.YtmbhjheoomlggaaDkCalls3
import Derived.RangeFuncNested
import Derived.RangeFuncBound
import Derived.RangeFuncCalls
import Derived.RangeFuncLeaves
import Derived.Shelf.Abstract
import Derived.Shelf.RegionOpen
import Derived.WalkKit
import Derived.OwnWalkIn
import Derived.TacticsInMore
import Derived.LoopNIn
import Derived.LoopIn
import Derived.Stop.RegionWithIn
namespace Go.Proofs.Ytmbhjheoomlggaa
open Go Go.Proofs Go.RowKit Go.Shelf
namespace Dk
attribute [local go_sem] Oper.semAt_some
def secV (block : Nat) (a : Addr) (i : Fin 2) : Array Value := #[.int .i64 ((block : Int) * 2 + (i.1 : Int)), .slice (some (a.add (i.1 * 512))) ((i.1 + 1) * 512 - i.1 * 512) ((i.1 + 1) * 512 - i.1 * 512)]
theorem take2 (k : Nat) (h : k < 2) : ([0, 1] : List (Fin 2)).take k ++ [⟨k, h⟩] = ([0, 1] : List (Fin 2)).take (k + 1) := by
  match k, h with
  | 0, _ => rfl
  | 1, _ => rfl
theorem pre2 (k : Nat) (h : k < 2) : ([0, 1] : List (Fin 2)).take k ++ [⟨k, h⟩] = [0] ∨ ([0, 1] : List (Fin 2)).take k ++ [⟨k, h⟩] = [0, 1] := by
  match k, h with
  | 0, _ => exact .inl rfl
  | 1, _ => exact .inr rfl
def KpB (B2 B3 : Nat) (W W' : World) : Prop := W'.heap[B2]? = W.heap[B2]? ∧ W'.heap[B3]? = W.heap[B3]?
set_option maxRecDepth 100000 in
set_option maxHeartbeats 4000000 in
theorem sectors_stops (n : Nat) (hn : 1 ≤ n) (B2 B3 block : Nat) (hblock : block ≤ 20000) (a : Addr) (c : Nat) (hc : 1024 ≤ c) (w : World)
    (h2 : w.heap[B2]? = some (.cells #[.int .i64 block] 3 (0, 0))) (h3 : w.heap[B3]? = some (.cells #[.slice (some a) 1024 c] 35 (0, 0))) :
    SeqStopsK Fence.wide n Try.prog 46 #[.pointer (some ⟨B2, 0, none⟩), .pointer (some ⟨B3, 0, none⟩)] (secV block a) (KpB B2 B3) (fun xs => xs = [0, 1]) (fun pre => pre = [0] ∨ pre = [0, 1]) 2 w := fun l J Jx W hW hJ hJx hY h0 => by
  have e2 : W.cell? ⟨B2, 0, none⟩ = some (.int .i64 block) := by
    rw [hW.cell (p := ⟨B2, 0, none⟩) (lt_of_block h2), blk_cell h2]; rfl
  have e3 : W.cell? ⟨B3, 0, none⟩ = some (.slice (some a) 1024 c) := by
    rw [hW.cell (p := ⟨B3, 0, none⟩) (lt_of_block h3), blk_cell h3]; rfl
  have mixed : Try.prog.follows Departure.mixedOrders = true := by kernel_rfl
  have HJ := Hid.mk hJ
  have HY := Hid.mk hY
  clear hJ hY hJx h2 h3 hW
  refine callsIn_of_wp Try.func46 rfl trivial ?_ rfl
  simp only [Try.ntmps46, List.size_toArray, List.length_cons, List.length_nil, Nat.reduceAdd, Nat.reduceSub, Array.replicate_succ, Array.replicate_zero, List.push_toArray, List.append_toArray, List.nil_append, List.cons_append]
  gi_wp2
  gi_loopw [7] (fun i wr => ∃ k : Nat, k ≤ 2 ∧ i = .int .i64 k ∧ J (([0, 1] : List (Fin 2)).take k) wr ∧ wr.cell? ⟨B2, 0, none⟩ = some (.int .i64 block) ∧ wr.cell? ⟨B3, 0, none⟩ = some (.slice (some a) 1024 c)) (fun i _ => 2 - (intOf i).toNat)
  case atStart => exact ⟨0, by omega, rfl, h0, e2, e3⟩
  case round =>
    obtain ⟨k, hk, rfl, hJk, g2, g3⟩ := hrel
    by_cases hlt : k < 2
    · have hJd : J (([0, 1] : List (Fin 2)).take k) wr.drew := HJ.out _ _ _ none hJk ⟨rfl, rfl, rfl, Nat.le_refl _, fun _ _ _ => rfl⟩ (by simp)
      obtain ⟨fn, tmps, assign, body, hy, hR⟩ := HY.out _ (⟨k, hlt⟩ : Fin 2) wr.drew hJd (by simp; omega)
      have HR : Hid (RoundIn Fence.wide (n - 1) Try.prog l fn tmps assign body wr.drew fun e W' => ∃ b : Bool, e = .returned (.bool b) ∧
          Hid ((b = true ∧ J (([0, 1] : List (Fin 2)).take k ++ [⟨k, hlt⟩]) W' ∧ KpB B2 B3 wr.drew W') ∨ (b = false ∧ Jx (([0, 1] : List (Fin 2)).take k ++ [⟨k, hlt⟩]) W'))) :=
        hR.mono (fun e W' h => h.elim (fun h => ⟨true, h.1, .inl ⟨rfl, h.2.1, h.2.2⟩⟩) (fun h => ⟨false, h.1, .inr ⟨rfl, h.2⟩⟩))
      clear hR hJk e2 e3 h0
      dsimp only [secV] at hy
      have hw1 : IntKind.i64.wrap ((block : Int) * 2) = (block : Int) * 2 := by rw [IntKind.wrap_i64]; omega
      have hw2 : IntKind.i64.wrap ((block : Int) * 2 + (k : Int)) = (block : Int) * 2 + (k : Int) := by rw [IntKind.wrap_i64]; omega
      gi_wp2
      gi_region_with_o (refine HR.out.mono ?_; rintro e W3 ⟨b, rfl, hb⟩)
      all_goals cases b with
        | true =>
          obtain ⟨hJ3, hk3⟩ : J (([0, 1] : List (Fin 2)).take k ++ [⟨k, hlt⟩]) W3 ∧ KpB B2 B3 wr.drew W3 := by simpa [Hid] using hb
          have hw2' : IntKind.i64.wrap ((k : Int) + 1) = (k : Int) + 1 := by rw [IntKind.wrap_i64]; omega
          have HJ3 := Hid.mk hJ3
          have HK3 := Hid.mk hk3
          clear hJ3 hk3 hb
          gi_wp2
          go_roundw
          case rel =>
            refine ⟨k + 1, by omega, by go_num, ?_, ?_, ?_⟩
            · rw [← take2 k hlt]; exact HJ3.out
            · rw [World.cell?_of_block (w := wr) (by exact HK3.out.1)]; exact g2
            · rw [World.cell?_of_block (w := wr) (by exact HK3.out.2)]; exact g3
          case measure => (clear HJ HY HJ3 HK3 hy; simp [intOf]; omega)
        | false =>
          have hx3 : Jx (([0, 1] : List (Fin 2)).take k ++ [⟨k, hlt⟩]) W3 := by simpa [Hid] using hb
          have HX3 := Hid.mk hx3
          clear hx3 hb
          gi_wp2
          refine bodyPost_ret (results_none rfl _ _ _) rfl ?_
          exact ⟨⟨_, rfl⟩, .inr ⟨_, pre2 k hlt, HX3.out⟩⟩
    · obtain rfl : k = 2 := by omega
      gi_wp2
      go_end0
      exact ⟨⟨_, rfl⟩, .inl ⟨_, rfl, hJk⟩⟩
end Dk
end Go.Proofs.Ytmbhjheoomlggaa
