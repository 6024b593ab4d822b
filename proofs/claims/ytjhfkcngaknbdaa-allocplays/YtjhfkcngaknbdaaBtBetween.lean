/-
  What the iterator over bits hands over, for every loop body.
-/
import Derived.Test.YtjhfkcngaknbdaaBtWith
import Derived.RangeFuncNested
import Derived.RangeFuncBound
import Derived.RangeFuncCalls
import Derived.RangeFuncLeaves
import Derived.Shelf.Abstract
import Derived.Shelf.RegionOpen
import Derived.WalkKit
import Derived.OwnWalkIn
import Derived.TacticsInMore
import Derived.LoopNIn
import Derived.LoopIn
import Derived.Stop.RegionWithIn
namespace Go.Proofs.Ytjhfkcngaknbdaa
open Go Go.Proofs Go.RowKit Go.Shelf
namespace Bt
attribute [local go_sem] Oper.semAt_some
def bitV (xs : List Int) (q : Nat) : Array Value := #[.int .i64 q, .bool (getN xs q)]
/-- What a round must leave: the iterator's own boxes, and the bytes. -/
def KpS (S : Nat → Prop) (W W' : World) : Prop := ∀ k, S k → W'.heap[k]? = W.heap[k]?
/-- The first bit that is handed over, and how many at most. -/
def bFrom (f : Int) : Nat := f.toNat
def bMany (xs : List Int) (f n : Int) : Nat := bndI xs n - bFrom f
theorem range'_snoc (f k : Nat) : List.range' f k ++ [f + k] = List.range' f (k + 1) := by
  rw [List.range'_concat]; simp
set_option maxRecDepth 100000 in
theorem _root_.Go.Proofs.Ytjhfkcngaknbdaa.BAt.kept {W W' : World} {ao : Option Addr} {n : Nat} {xs : List Int} (h : BAt W ao n xs) (hk : ∀ a, ao = some a → 0 < n → W'.heap[a.block]? = W.heap[a.block]?) : BAt W' ao n xs := by
  refine ⟨h.1, fun hn => ?_⟩
  obtain ⟨a, e, hlt, hc⟩ := h.2 hn
  have hb := hk a e hn
  refine ⟨a, e, ?_, fun i hi => ?_⟩
  · rw [Array.getElem?_eq_getElem hlt] at hb
    exact (Array.getElem?_eq_some_iff.1 hb).1
  · rw [World.cell?_of_block (w := W) (by rw [add_block]; exact hb)]
    exact hc i hi
set_option maxRecDepth 100000 in
set_option maxHeartbeats 4000000 in
theorem between_stops (n : Nat) (hn : 1 ≤ n) (B3 B4 B5 : Nat) (f m : Int) (hf : I64 f) (hm : I64 m) (ao : Option Addr) (l c : Nat) (xs : List Int) (w : World) (S : Nat → Prop)
    (h3 : w.heap[B3]? = some (.cells #[.slice ao l c] 39 (0, 0))) (h4 : w.heap[B4]? = some (.cells #[.int .i64 f] 3 (0, 0))) (h5 : w.heap[B5]? = some (.cells #[.int .i64 m] 3 (0, 0)))
    (hb : BAt w ao l xs) (hx : ∀ x ∈ xs, 0 ≤ x ∧ x ≤ 255) (hbig : l ≤ 140737488355328)
    (hS3 : S B3) (hS5 : S B5) (hSa : ∀ a, ao = some a → 0 < l → S a.block) :
    SeqStopsK Fence.wide n Try.prog 60 #[.pointer (some ⟨B4, 0, none⟩), .pointer (some ⟨B5, 0, none⟩), .pointer (some ⟨B3, 0, none⟩)] (bitV xs) (KpS S) (fun ys => ys = List.range' (bFrom f) (bMany xs f m)) (fun pre => ∃ k, k < bMany xs f m ∧ pre = List.range' (bFrom f) (k + 1)) (bMany xs f m) w := fun lp J Jx W hW hJ hJx hY h0 => by
  obtain ⟨hf1, hf2⟩ := hf
  obtain ⟨hm1, hm2⟩ := hm
  have hlen := hb.1
  have mixed : Try.prog.follows Departure.mixedOrders = true := by kernel_rfl
  have HJ := Hid.mk hJ
  have HY := Hid.mk hY
  have e3 : W.cell? ⟨B3, 0, none⟩ = some (.slice ao l c) := by
    rw [hW.cell (p := ⟨B3, 0, none⟩) (lt_of_block h3), blk_cell h3]; rfl
  have e4 : W.cell? ⟨B4, 0, none⟩ = some (.int .i64 f) := by
    rw [hW.cell (p := ⟨B4, 0, none⟩) (lt_of_block h4), blk_cell h4]; rfl
  have e5 : W.cell? ⟨B5, 0, none⟩ = some (.int .i64 m) := by
    rw [hW.cell (p := ⟨B5, 0, none⟩) (lt_of_block h5), blk_cell h5]; rfl
  have eb : BAt W ao l xs := hb.only (Only.of_new (fun _ => False) hW) (fun _ _ _ h => h)
  have HB := Hid.mk eb
  clear hJ hY hJx h3 h4 h5 hW hb eb
  have hmax : (max f 0 : Int) = ((bFrom f : Nat) : Int) := by unfold bFrom; omega
  refine callsIn_of_wp Try.func60 rfl trivial ?_ rfl
  simp only [Try.ntmps60, List.size_toArray, List.length_cons, List.length_nil, Nat.reduceAdd, Nat.reduceSub, Array.replicate_succ, Array.replicate_zero, List.push_toArray, List.append_toArray, List.nil_append, List.cons_append]
  have HX := Hid.mk hx
  have HSa := Hid.mk hSa
  clear hx hSa
  obtain ⟨M, hM⟩ : ∃ M, M = bMany xs f m := ⟨_, rfl⟩
  obtain ⟨F, hF⟩ : ∃ F, F = bFrom f := ⟨_, rfl⟩
  rw [← hM] at HY ⊢
  rw [← hF] at hmax ⊢
  have hM2 : M = min m.toNat (8 * l) - F := by rw [hM, hF, ← hlen]; rfl
  have hF2 : F = f.toNat := hF
  clear hM hF
  gi_wp2
  all_goals
    gi_loopw [5] (fun i wr => ∃ k : Nat, k ≤ M ∧ i = .int .i64 ((F + k : Nat) : Int) ∧ J (List.range' F k) wr ∧ wr.cell? ⟨B3, 0, none⟩ = some (.slice ao l c) ∧ wr.cell? ⟨B5, 0, none⟩ = some (.int .i64 m) ∧ Hid (BAt wr ao l xs)) (fun i _ => F + M - (intOf i).toNat)
    case atStart => exact ⟨0, by omega, by congr 1; omega, h0, e3, e5, HB⟩
    case round =>
      obtain ⟨k, hk, rfl, hJk, g3, g5, gb⟩ := hrel
      obtain ⟨q, hq⟩ : ∃ q, q = F + k := ⟨_, rfl⟩
      rw [← hq]
      by_cases hlt : k < M
      · have hq1 : (q : Int) < m := by omega
        have hq8 : q / 8 < l := by omega
        obtain ⟨a, rfl, hc⟩ := gb.out.at (q / 8) hq8
        obtain ⟨x, hxe⟩ : ∃ x, x = xs.getD (q / 8) 0 := ⟨_, rfl⟩
        have hxb := getD_bound xs HX.out (q / 8)
        rw [← hxe] at hc hxb
        have hs : (bits BinOp.and IntKind.u8 x (maskN q) != 0) = getN xs q := by rw [u8_mask x q hxb, hxe]; rfl
        have hJd : J (List.range' F k) wr.drew := HJ.out _ _ _ none hJk ⟨rfl, rfl, rfl, Nat.le_refl _, fun _ _ _ => rfl⟩ (by simp)
        obtain ⟨fn, tmps, assign, body, hy, hR⟩ := HY.out _ q wr.drew hJd (by simp; omega)
        have HR : Hid (RoundIn Fence.wide (n - 1) Try.prog lp fn tmps assign body wr.drew fun e W' => ∃ b : Bool, e = .returned (.bool b) ∧
            Hid ((b = true ∧ J (List.range' F k ++ [q]) W' ∧ KpS S wr.drew W') ∨ (b = false ∧ Jx (List.range' F k ++ [q]) W'))) :=
          hR.mono (fun e W' h => h.elim (fun h => ⟨true, h.1, .inl ⟨rfl, h.2.1, h.2.2⟩⟩) (fun h => ⟨false, h.1, .inr ⟨rfl, h.2⟩⟩))
        have hq63 : q < 9223372036854775808 := by omega
        have hq3 : (q : Int) / 8 < l := by omega
        have hw8 : IntKind.i64.wrap ((q : Int) / 8) = (q : Int) / 8 := by rw [IntKind.wrap_i64]; omega
        have h08 : (0 : Int) ≤ (q : Int) / 8 := by omega
        have ht8 : ((q : Int) / 8).toNat = q / 8 := by omega
        have HM : Hid (∀ w, CallsIn Fence.wide (n - 1) Try.prog 62 #[.int .i64 q] w fun e w' => e = .returned (.int .u8 (maskN q)) ∧ w' = w) := Hid.mk fun w => callsIn_wide.2 (mask_any w q hq63)
        have HH : Hid (∀ w, CallsIn Fence.wide (n - 1) Try.prog 61 #[.slice (some a) l c, .int .i64 q] w fun e w' => e = .returned (.bool true) ∧ w' = w) := Hid.mk fun w => callsIn_wide.2 (by
          have := has_any w (some a) l c q ⟨by omega, by omega⟩
          rw [hasI_nat, decide_eq_true hq8] at this
          exact this)
        have hw2' : IntKind.i64.wrap ((q : Int) + 1) = (q : Int) + 1 := by rw [IntKind.wrap_i64]; omega
        have HXE := Hid.mk hxe
        have HA := Hid.mk (And.intro hq (And.intro hM2 (And.intro hF2 (And.intro hlt hk))))
        clear hR hJk e3 e4 e5 h0 hxe hJd hq hM2 hF2 hmax hlen hf1 hf2 hm1 hm2 hlt hk hxb hbig
        dsimp only [bitV] at hy
        gi_wp2_with (refine ⟨trivial, ?_⟩; gi_at_call 61; refine (HH.out _).mono ?_; rintro e w' ⟨rfl, hw⟩; subst w')
        gi_region_with_o (first | (refine ⟨trivial, ?_⟩; gi_at_call 62; refine (HM.out _).mono ?_; rintro e w' ⟨rfl, hw⟩; subst w') | (refine HR.out.mono ?_; rintro e W3 ⟨b, rfl, hb⟩))
        all_goals
          cases b with
          | true =>
            have hb3 : J (List.range' F k ++ [q]) W3 ∧ KpS S wr.drew W3 := by simpa [Hid] using hb
            have HJ3 := Hid.mk hb3.1
            have HK3 := Hid.mk hb3.2
            clear hb3 hb
            gi_wp2
            go_roundw
            case rel =>
              obtain ⟨e1, e2, e3, e4, e5⟩ := HA.out
              refine ⟨k + 1, by omega, by congr 1; omega, ?_, ?_, ?_, Hid.mk ?_⟩
              · rw [← range'_snoc, ← e1]; exact HJ3.out
              · rw [World.cell?_of_block (w := wr) (HK3.out B3 hS3)]; exact g3
              · rw [World.cell?_of_block (w := wr) (HK3.out B5 hS5)]; exact g5
              · exact gb.out.kept (fun a' e hl => HK3.out a'.block (HSa.out a' e hl))
            case measure =>
              obtain ⟨e1, e2, e3, e4, e5⟩ := HA.out
              clear HJ HY HJ3 HK3 hy HA HB HR HH HM HX HSa gb HXE
              simp [intOf]
              omega
          | false =>
            have hx3 : Jx (List.range' F k ++ [q]) W3 := by simpa [Hid] using hb
            have HX3 := Hid.mk hx3
            clear hx3 hb
            gi_wp2
            refine bodyPost_ret (results_none rfl _ _ _) rfl ?_
            obtain ⟨e1, e2, e3, e4, e5⟩ := HA.out
            exact ⟨⟨_, rfl⟩, .inr ⟨_, ⟨k, e4, rfl⟩, by rw [← range'_snoc, ← e1]; exact HX3.out⟩⟩
      · obtain rfl : k = M := by omega
        have HJk := Hid.mk hJk
        have hi64 : I64 (q : Int) := ⟨by omega, by omega⟩
        by_cases hq1 : (q : Int) < m
        · have HH : Hid (∀ w, CallsIn Fence.wide (n - 1) Try.prog 61 #[.slice ao l c, .int .i64 q] w fun e w' => e = .returned (.bool false) ∧ w' = w) := Hid.mk fun w => callsIn_wide.2 (by
            have := has_any w ao l c q hi64
            rw [hasI_nat, decide_eq_false (by omega)] at this
            exact this)
          clear hJk e3 e4 e5 h0 hq hM2 hF2 hmax hlen hf1 hf2 hm1 hm2 hlt hk hbig hi64
          gi_wp2_with (refine ⟨trivial, ?_⟩; gi_at_call 61; refine (HH.out _).mono ?_; rintro e w' ⟨rfl, hw⟩; subst w')
          go_end0
          exact ⟨⟨_, rfl⟩, .inl ⟨_, rfl, HJk.out⟩⟩
        · clear hJk e3 e4 e5 h0 hq hM2 hF2 hmax hlen hf1 hf2 hm1 hm2 hlt hk hbig hi64
          gi_wp2
          refine ⟨trivial, ?_⟩
          gi_wp2
          go_end0
          exact ⟨⟨_, rfl⟩, .inl ⟨_, rfl, HJk.out⟩⟩
end Bt
end Go.Proofs.Ytjhfkcngaknbdaa
