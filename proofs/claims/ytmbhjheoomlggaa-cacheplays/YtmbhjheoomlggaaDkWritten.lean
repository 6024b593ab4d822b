/-
  What the iterator over a disk's log hands over, for every loop body that leaves the log alone.
-/
import Derived.Test.YtmbhjheoomlggaaDkWrite
namespace Go.Proofs.Ytmbhjheoomlggaa
open Go Go.Proofs Go.RowKit Go.Shelf
namespace Dk
attribute [local go_sem] Oper.semAt_some
set_option maxRecDepth 100000 in
theorem LogCells.get {G : Nat → Prop} {W : World} : ∀ {cells : List Value} {log : List (Int × List Int)} (_ : LogCells G W cells log) (k : Nat) (_ : k < log.length),
    ∃ dv, cells[2 * k]? = some (.int .i64 (log.getD k (0, [])).1) ∧ cells[2 * k + 1]? = some dv ∧ dv ≠ .slice none 0 0 ∧ W.ownsRow 0 5 1 dv (log.getD k (0, [])).2.length (By (log.getD k (0, [])).2) ∧ ∀ j, dv.ownBlock = some j → G j
  | [], [], _, k, hk => by simp at hk
  | a :: b :: r, x :: l, h, 0, _ => ⟨b, by simp [h.1], by simp, h.2.1, by simpa using h.2.2.1, h.2.2.2.1⟩
  | a :: b :: r, x :: l, h, k + 1, hk => by
    obtain ⟨dv, h1, h2, h3, h4, h5⟩ := LogCells.get h.2.2.2.2 k (by simpa using hk)
    refine ⟨dv, ?_, ?_, h3, ?_, h5⟩
    · rw [show 2 * (k + 1) = 2 * k + 1 + 1 by omega]; simpa using h1
    · rw [show 2 * (k + 1) + 1 = 2 * k + 1 + 1 + 1 by omega]; simpa using h2
    · simpa using h4
  | [_], _, h, _, _ => by simp [LogCells] at h
  | [], _ :: _, h, _, _ => by simp [LogCells] at h
  | _ :: _ :: _, [], h, _, _ => by simp [LogCells] at h
theorem cell_lt {w : World} {a : Addr} {v : Value} (h : w.cell? a = some v) : a.block < w.heap.size := by
  rcases Nat.lt_or_ge a.block w.heap.size with h' | h'
  · exact h'
  · simp [World.cell?, Array.getElem?_eq_none h'] at h
theorem grown_trans {a b c : World} (h : a.grownBy b none) (k : b.grownBy c none) : a.grownBy c none :=
  ⟨k.os.trans h.os, k.tape.trans h.tape, k.output.trans h.output, Nat.le_trans h.size k.size, fun i hi _ => (k.block i (Nat.lt_of_lt_of_le hi h.size) (by simp)).trans (h.block i hi (by simp))⟩
set_option maxRecDepth 100000 in
/-- What the iterator over a log reads of the disk's log: its entries. -/
theorem DiskAt.read {F : Nat → Prop} {W : World} {d : Nat} {s : DS} (h : DiskAt F W d s) :
    ∃ ao cap, W.cell? ⟨d, 1, none⟩ = some (.slice ao s.log.length cap) ∧ s.log.length ≤ cap ∧ ∀ k, k < s.log.length →
    ∃ bl gd capd, ao = some ⟨bl, 0, none⟩ ∧ F bl ∧ F gd ∧ W.cell? ⟨bl, k * 2, none⟩ = some (.int .i64 (s.log.getD k (0, [])).1) ∧
      W.cell? ⟨bl, k * 2 + 1, none⟩ = some (.slice (some ⟨gd, 0, none⟩) (s.log.getD k (0, [])).2.length capd) ∧
      ∀ i, i < (s.log.getD k (0, [])).2.length → W.cell? ((⟨gd, 0, none⟩ : Addr).add i) = some (.int .u8 ((s.log.getD k (0, [])).2.getD i 0)) := by
  obtain ⟨h0, bi, lv, h1, h2⟩ := h
  obtain ⟨cells, c1, c2, c3⟩ := h2.2.2
  rcases c1.2 with ⟨rfl, h0⟩ | ⟨bl, cap, cur, rfl, _, hh, hnc, _, hsz, ht⟩
  · exact ⟨none, 0, by rw [blk_cell h1, h0]; rfl, by omega, fun k hk => by omega⟩
  · refine ⟨some ⟨bl, 0, none⟩, cap, by rw [blk_cell h1]; rfl, hnc, fun k hk => ?_⟩
    obtain ⟨dv, e1, e2, e3, e4, e5⟩ := c3.get k hk
    obtain ⟨gd, capd, rfl, _, hlt, hcap, _, hcell⟩ := owns_bytes e4 e3
    have get : ∀ j, j < s.log.length * 2 → cur[j]? = cells[j]? := fun j hj => by
      rw [← Array.getElem?_toList, ← ht, List.getElem?_take, if_pos hj]
    refine ⟨bl, gd, capd, rfl, (c2 bl rfl).1.1, (e5 gd rfl).1.1.1, ?_, ?_, hcell⟩
    · rw [blk_cell hh, get _ (by omega), Nat.mul_comm k 2]; exact e1
    · rw [blk_cell hh, get _ (by omega), Nat.mul_comm k 2]; exact e2
set_option maxRecDepth 100000 in
set_option maxHeartbeats 4000000 in
theorem written1_in (n : Nat) (hn : 1 ≤ n) (l B1 d : Nat) (s : DS) (F : Nat → Prop) (hlog : s.log.length ≤ 1000000) (hdat : ∀ k, k < s.log.length → (s.log.getD k (0, [])).2.length ≤ 1000000) (J : Nat → World → Prop)
    (W : World) (hDk : DiskAt F W d s) (hB1 : W.heap[B1]? = some (.cells #[.pointer (some ⟨d, 0, none⟩)] 24 (0, 0)))
    (hJg : ∀ k A B, J k A → A.grownBy B none → J k B)
    (hJd : ∀ k A, J k A → ∀ b, F b → A.heap[b]? = W.heap[b]?)
    (hY : ∀ k A B g cap, J k A → A.grownBy B none → A.heap.size ≤ g → k < s.log.length → B.ownsRow 0 5 1 (.slice (some ⟨g, 0, none⟩) (s.log.getD k (0, [])).2.length cap) (s.log.getD k (0, [])).2.length (By (s.log.getD k (0, [])).2) →
      YieldAt Fence.wide (n - 1) Try.prog l #[.agg #[.int .i64 (s.log.getD k (0, [])).1, .slice (some ⟨g, 0, none⟩) (s.log.getD k (0, [])).2.length cap]] B fun e W' => e = .returned (.bool true) ∧ J (k + 1) W')
    (h0 : J 0 W) :
    CallsIn Fence.wide n Try.prog 48 #[.func (.yield l) #[] #[], .pointer (some ⟨B1, 0, none⟩)] W fun e W' => (∃ v, e = .returned v) ∧ J s.log.length W' := by
  have mixed : Try.prog.follows Departure.mixedOrders = true := by kernel_rfl
  obtain ⟨ao, cap, hlv, hcap, hent⟩ := hDk.read
  have hent' : ∀ k A, J k A → k < s.log.length → ∃ bl gd capd, ao = some ⟨bl, 0, none⟩ ∧ A.cell? ⟨bl, k * 2, none⟩ = some (.int .i64 (s.log.getD k (0, [])).1) ∧
      A.cell? ⟨bl, k * 2 + 1, none⟩ = some (.slice (some ⟨gd, 0, none⟩) (s.log.getD k (0, [])).2.length capd) ∧
      ∀ i, i < (s.log.getD k (0, [])).2.length → A.cell? ((⟨gd, 0, none⟩ : Addr).add i) = some (.int .u8 ((s.log.getD k (0, [])).2.getD i 0)) := fun k A hA hk => by
    obtain ⟨bl, gd, capd, e, f1, f2, e1, e2, e3⟩ := hent k hk
    have hb := hJd k A hA bl f1
    have hg := hJd k A hA gd f2
    refine ⟨bl, gd, capd, e, ?_, ?_, fun i hi => ?_⟩
    · rw [World.cell?_of_block (w := W) hb]; exact e1
    · rw [World.cell?_of_block (w := W) hb]; exact e2
    · rw [World.cell?_of_block (w := W) (by rw [add_at]; exact hg)]; exact e3 i hi
  have HG := Hid.mk hJg
  have HY := Hid.mk hY
  have HT := Hid.mk hdat
  have HE := Hid.mk hent'
  have hb1 := blk_cell hB1 0
  simp at hb1
  clear hJg hJd hY hdat hent hent' hDk hB1
  generalize hN : s.log.length = N at *
  have HN := Hid.mk hN
  clear hN
  refine callsIn_of_wp Try.func48 rfl trivial ?_ rfl
  simp only [Try.ntmps48, List.size_toArray, List.length_cons, List.length_nil, Nat.reduceAdd, Nat.reduceSub, Array.replicate_succ, Array.replicate_zero, List.push_toArray, List.append_toArray, List.nil_append, List.cons_append]
  gi_wp2
  clear hlv hb1
  gi_loopw [10] (fun i wr => ∃ k : Nat, k ≤ N ∧ i = .int .i64 k ∧ J k wr) (fun i _ => N - (intOf i).toNat)
  case atStart => exact ⟨0, by omega, rfl, h0⟩
  case round =>
    obtain ⟨k, hk, rfl, hJk⟩ := hrel
    have HJ := Hid.mk hJk
    clear hJk h0
    by_cases hlt : k < N
    · obtain ⟨bl, gd, capd, rfl, e1, e2, e3⟩ := HE.out k wr HJ.out hlt
      have ht := HT.out k hlt
      have HCL : Hid (∀ A : World, wr.grownBy A none → Calls Try.prog 32 #[.slice (some ⟨gd, 0, none⟩) (s.log.getD k (0, [])).2.length capd] A fun e w' => ∃ g cap, e = .returned (.slice (some ⟨g, 0, none⟩) (s.log.getD k (0, [])).2.length cap) ∧ A.heap.size ≤ g ∧
          A.grownBy w' none ∧ w'.ownsRow 0 5 1 (.slice (some ⟨g, 0, none⟩) (s.log.getD k (0, [])).2.length cap) (s.log.getD k (0, [])).2.length (By (s.log.getD k (0, [])).2)) := fun A hA =>
        (clone_form ⟨gd, 0, none⟩ _ capd _ A rfl (by omega) (fun i hi => by
          have h3 := e3 i hi
          rw [World.cell?_of_block (w := wr) (hA.block _ (cell_lt h3) (by simp))]; exact h3)).mono (by
          rintro e w' ⟨g, cap, rfl, hg, hown, hb⟩
          exact ⟨g, cap, rfl, hg, ⟨hb.os, hb.tape, hb.output, hb.size, fun k hk _ => hb.block k hk⟩, owns_base hown (Nat.zero_le _)⟩)
      have HYk := Hid.mk (fun B g cap => HY.out k wr B g cap HJ.out)
      generalize hX : s.log.getD k (0, []) = X at *
      have HX := Hid.mk hX
      clear hX e3
      obtain ⟨X1, X2⟩ := X
      dsimp only at *
      generalize X2.length = M at *
      have HGA : Hid (wr.grownBy (wr.alloc (.cells #[.int .i64 X1, .slice (some ⟨gd, 0, none⟩) M capd] 81)).drew none) :=
        ⟨rfl, rfl, rfl, by simp [World.drew], fun j hj _ => Below.heap_alloc _ _ _ hj⟩
      have HCE : Hid (∀ W3 : World, (wr.alloc (.cells #[.int .i64 X1, .slice (some ⟨gd, 0, none⟩) M capd] 81)).drew.grownBy W3 none → W3.cell? ⟨wr.heap.size, 0, none⟩ = some (.int .i64 X1)) := fun W3 h3 => by
        have hb := (h3.block wr.heap.size (by simp [World.drew]) (by simp)).trans (blk_new wr _)
        rw [blk_cell hb]; rfl
      gi_wp2
      gi_region_with_o (first | (refine ⟨trivial, ?_⟩; gi_at_call 32; refine (callsIn_wide.2 (HCL.out _ HGA.out)).mono ?_; rintro e W3 ⟨g, cp, rfl, hg3, hgr3, hown3⟩; have hce := HCE.out W3 hgr3; obtain ⟨fn, tmps, assign, body, hy, hR⟩ := HYk.out W3 g cp (grown_trans HGA.out hgr3) (Nat.le_trans HGA.out.size hg3) hlt hown3; have HR := Hid.mk hR; clear hR hown3 hgr3 hg3) | (refine HR.out.mono ?_; rintro e W4 ⟨rfl, hJ4⟩))
      all_goals
        have HJ4 := Hid.mk hJ4
        clear hJ4 HYk HR HCL HGA HCE HX HJ hy e1 e2
        gi_wp2
        go_roundw
        case rel => exact ⟨k + 1, by omega, by go_num, HJ4.out⟩
        case measure => (clear HJ4 HG HY HT HE HN; simp [intOf]; omega)
    · obtain rfl : k = N := by omega
      gi_wp2
      go_end0
      exact ⟨⟨_, rfl⟩, HJ.out⟩
end Dk
end Go.Proofs.Ytmbhjheoomlggaa
