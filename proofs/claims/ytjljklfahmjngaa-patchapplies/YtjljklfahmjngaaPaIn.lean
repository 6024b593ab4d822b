/-
  Is a number one of a list: among.
-/
import Derived.Test.YtjljklfahmjngaaPaRow
import Derived.Test.YtjljklfahmjngaaTrMap
import Derived.WalkArith
namespace Go.Proofs.Ytjljklfahmjngaa
open Go Go.Proofs Go.RowKit Go.Shelf
open Go.ChangeMaps (setBlock)
attribute [local go_sem] Oper.semAt_some
theorem wf64 {x : Int} (h : I64 x) : (Lit.int .i64 x).wf = true := WalkArith.wf_i64 h
def memF (xs : List Int) : Lit → Option Value := fun l => match l with
  | .int .i64 x => if x ∈ xs then some (.agg #[]) else none
  | _ => none
theorem memF_int (xs : List Int) (x : Int) : memF xs (.int .i64 x) = if x ∈ xs then some (.agg #[]) else none := rfl
theorem key_int {x : Int} (h : (Lit.int .i64 x).wf = true) : keyOf Try.prog 3 (.int .i64 x) = some (.int .i64 x) := Maps.keyOf_int_mk Try.underlying3 h
theorem zero64 (W : World) : (zeroValue 64).run Try.prog W = .ok (.agg #[]) W := by kernel_rfl
/-- The numbers of a list, as a map. -/
def InAt (W : World) (b : Nat) (xs : List Int) : Prop := ∃ n, n ≤ xs.length ∧ MAt W 3 b n (memF xs)
theorem InAt.kept {W W' : World} {b : Nat} {xs : List Int} (h : InAt W b xs) (hb : W'.heap[b]? = W.heap[b]?) : InAt W' b xs := by
  obtain ⟨n, h1, h2⟩ := h
  exact ⟨n, h1, h2.kept hb⟩
theorem InAt.lt {W : World} {b : Nat} {xs : List Int} (h : InAt W b xs) : b < W.heap.size := by
  obtain ⟨n, _, h2⟩ := h
  exact h2.lt
theorem InAt.look {W : World} {b : Nat} {xs : List Int} (h : InAt W b xs) {x : Int} (hx : (Lit.int .i64 x).wf = true) : (Instr.lookup 63 (.map (some b)) (.int .i64 x) true).run Try.prog W = .ok (.tuple #[.agg #[], .bool (decide (x ∈ xs))]) W := by
  obtain ⟨n, _, hm⟩ := h
  rw [hm.look2 keyed3 Try.underlying63 (zero64 W) (key_int hx), memF_int]
  by_cases hxs : x ∈ xs
  · simp [hxs]
  · simp [hxs]
theorem InAt.put {W : World} {b : Nat} {xs : List Int} (h : InAt W b xs) (hn : xs.length ≤ 1000000) {x : Int} (hx : (Lit.int .i64 x).wf = true) : ∃ o, (Instr.mapUpdate 63 (.map (some b)) (.int .i64 x) (.agg #[])).run Try.prog W = .ok () (setBlock W b o) ∧ InAt (setBlock W b o) b (xs ++ [x]) := by
  obtain ⟨n, h1, hm⟩ := h
  obtain ⟨o, hr, hm2⟩ := hm.put keyed3 Try.underlying63 (by unfold maxLen; omega) (key_int hx) (val := .agg #[])
  refine ⟨o, hr, _, ?_, hm2.say (fun _ l _ => ?_)⟩
  · split <;> simp <;> omega
  · by_cases e : l = .int .i64 x
    · subst e
      rw [upd_same, memF_int, if_pos (by simp)]
    · rw [upd_other _ _ e]
      unfold memF
      split
      · rename_i y _
        have hyx : y ≠ x := fun h => e (by rw [h])
        simp [hyx]
      · rfl
theorem make_hint (m : Nat) (W : World) : (Instr.makeMap 63 (some (.int .i64 m))).run Try.prog W = .ok (.map (some W.heap.size)) (W.alloc (.map #[] 0)) := by kernel_rfl
def amongV (b : Nat) : Value := .func (.func 32) #[] #[.pointer (some ⟨b, 0, none⟩)]
structure AmI (w : World) (xs : List Int) (k : Nat) (W : World) : Prop where
  var : W.heap[w.heap.size + 1]? = some (.cells #[.map (some w.heap.size)] 63 (0, 0))
  mem : InAt W w.heap.size (xs.take k)
  below : Below w.heap.size w W
theorem AmI.step {w : World} {xs : List Int} {k : Nat} {W : World} (h : AmI w xs k W) (hk : k < xs.length) (hl : xs.length ≤ 1000000) (hwf : ∀ x ∈ xs, I64 x) :
    W.cell? ⟨w.heap.size + 1, 0, none⟩ = some (.map (some w.heap.size)) ∧ ∃ o, (Instr.mapUpdate 63 (.map (some w.heap.size)) (.int .i64 (xs.getD k 0)) (.agg #[])).run Try.prog W = .ok () (setBlock W w.heap.size o) ∧ Hid (AmI w xs (k + 1) (setBlock W w.heap.size o)) := by
  obtain ⟨o, hr, hm⟩ := h.mem.put (by rw [List.length_take]; omega) (wf64 (hwf _ (getD_mem hk)))
  refine ⟨by rw [blk_cell h.var]; rfl, o, hr, Hid.mk ⟨?_, ?_, ?_⟩⟩
  · rw [heap_set_other (by omega)]
    exact h.var
  · rw [take_snoc xs k hk]
    exact hm
  · have hb := h.below
    refine ⟨hb.os, hb.tape, hb.output, by rw [size_setBlock]; exact hb.size, fun j hj => ?_⟩
    rw [heap_set_other (by omega)]
    exact hb.block j hj
set_option maxRecDepth 100000 in
set_option maxHeartbeats 4000000 in
theorem among_any (w : World) (ao : Option Addr) (m c : Nat) (xs : List Int) (hx : LAt w ao m xs) (hm : m ≤ 1000000) (hwf : ∀ x ∈ xs, I64 x) :
    Calls Try.prog 24 #[.slice ao m c] w fun e w' => e = .returned (amongV (w.heap.size + 1)) ∧ w'.heap[w.heap.size + 1]? = some (.cells #[.map (some w.heap.size)] 63 (0, 0)) ∧ InAt w' w.heap.size xs ∧ Below w.heap.size w w' := by
  have hmm := make_hint
  have HX := Hid.mk hx
  have HM := Hid.mk hm
  have HWF := Hid.mk hwf
  have h0 : AmI w xs 0 ((w.alloc (.map #[] 0)).alloc (.cells #[.map (some w.heap.size)] 63)) := by
    refine ⟨?_, ⟨0, Nat.zero_le _, ?_⟩, ?_⟩
    · have := blk_new (w.alloc (.map #[] 0)) (.cells #[.map (some w.heap.size)] 63)
      rwa [World.size_alloc] at this
    · refine ((MAt.new w 3).kept (Below.heap_alloc _ _ _ (by simp))).say (fun _ l _ => ?_)
      unfold memF
      split <;> simp
    · exact ((Below.refl _ w).alloc (Nat.le_refl _) _).alloc (by simp) _
  have H0 := Hid.mk h0
  clear hx hm hwf h0
  go_enter Try.func24, Try.ntmps24
  go_wp2
  go_loopw [5, 11] (fun _ kv wr => ∃ k : Nat, kv = .int .i64 k ∧ Hid (k ≤ m ∧ AmI w xs k wr)) (fun _ kv _ => m - (Go.RowKit.intOf kv).toNat)
  case atStart => exact ⟨0, rfl, Hid.mk ⟨Nat.zero_le _, H0.out⟩⟩
  case round =>
    obtain ⟨k, rfl, HK⟩ := hrel
    clear H0 hmm
    by_cases hlt : k < m
    · have hlt' : (k : Int) < (m : Int) := by omega
      have u1 : IntKind.i64.wrap ((k : Int) + 1) = ((k + 1 : Nat) : Int) := by have := HM.out; rw [IntKind.wrap_i64]; omega
      obtain ⟨a, rfl, hca⟩ := (HX.out.below HK.out.2.below).at k hlt
      have hxl := HX.out.1
      obtain ⟨m1, o, hr, HN⟩ := HK.out.2.step (by omega) (by have := HM.out; omega) HWF.out
      have HLT := Hid.mk hlt
      clear HK hxl hlt
      generalize xs.getD k 0 = x at *
      go_wp2
      go_roundw
      case rel => exact ⟨k + 1, rfl, Hid.mk ⟨HLT.out, HN.out⟩⟩
      case measure => (have := HLT.out; simp [Go.RowKit.intOf]; omega)
    · obtain rfl : k = m := by have := HK.out.1; omega
      have hxl := HX.out.1
      have HF := Hid.mk HK.out.2
      clear HK
      go_wp2
      go_ret
      have h9 := HF.out.mem
      rw [List.take_of_length_le (by omega)] at h9
      exact ⟨rfl, HF.out.var, h9, HF.out.below⟩
set_option maxRecDepth 100000 in
theorem among1_any (W : World) (vb b : Nat) (xs : List Int) (hv : W.cell? ⟨vb, 0, none⟩ = some (.map (some b))) (h : InAt W b xs) (x : Int) (hx : I64 x) :
    Calls Try.prog 32 #[.int .i64 x, .pointer (some ⟨vb, 0, none⟩)] W fun e W' => e = .returned (.bool (decide (x ∈ xs))) ∧ Below W.heap.size W W' := by
  have q1 := h.look (wf64 hx)
  clear h hx
  go_enter Try.func32, Try.ntmps32
  go_wp2
  go_ret
  exact ⟨rfl, by first | exact (Below.refl _ W).alloc (Nat.le_refl _) _ | exact Below.refl _ W⟩
end Go.Proofs.Ytjljklfahmjngaa
