/-
  What the laws lean on: SameInts, block.
-/
import Derived.Test.YtmbhjheoomlggaaCaSt2
namespace Go.Proofs.Ytmbhjheoomlggaa
open Go Go.Proofs Go.RowKit Go.Shelf
theorem below_drewN' (w : World) (n B : Nat) (h : B ≤ w.heap.size) : Below B w (w.drewN n) := (show Below w.heap.size w (w.drewN n) from ⟨rfl, rfl, rfl, Nat.le_refl _, fun _ _ => rfl⟩).mono h
theorem LAt.below {W W' : World} {ao : Option Addr} {n B : Nat} {xs : List Int} (h : LAt W ao n xs) (hB : Below B W W') (ha : ∀ a, ao = some a → a.block < W.heap.size → a.block < B) : LAt W' ao n xs :=
  ⟨h.1, fun h0 => by
    obtain ⟨a, e, hl, hc⟩ := h.2 h0
    exact ⟨a, e, Nat.lt_of_lt_of_le hl hB.size, fun i hi => by rw [hB.cell (p := a.add i) (by rw [add_block]; exact ha a e hl)]; exact hc i hi⟩⟩
theorem LAt.next {W W' : World} {ao : Option Addr} {n : Nat} {xs : List Int} (h : LAt W ao n xs) (hB : Below W.heap.size W W') : LAt W' ao n xs := h.below hB (fun _ _ h => h)
set_option maxRecDepth 100000 in
set_option maxHeartbeats 4000000 in
theorem sameints_any (w : World) (a b : Option Addr) (n m c d : Nat) (L M : List Int) (hL : LAt w a n L) (hM : LAt w b m M) (hn : n ≤ 16777216) (hm : m ≤ 16777216) :
    Calls Try.prog 22 #[.slice a n c, .slice b m d] w fun e w' => e = .returned (.bool (decide (L = M))) ∧ Below w.heap.size w w' := by
  by_cases hnm : n = m
  · subst hnm
    have HBW : Hid (∀ wr, Below w.heap.size w wr → LAt wr a n L ∧ LAt wr b n M) := Hid.mk (fun wr h => ⟨hL.next h, hM.next h⟩)
    have HLL := Hid.mk hL.1
    have HML := Hid.mk hM.1
    clear hL hM
    go_enter Try.func22, Try.ntmps22
    go_wp2
    go_loopw [5] (fun i wr => ∃ k : Nat, i = .int .i64 k ∧ k ≤ n ∧ Hid (∀ j, j < k → L.getD j 0 = M.getD j 0) ∧ Hid (Below w.heap.size w wr)) (fun i _ => n - (intOf i).toNat)
    case atStart => exact ⟨0, rfl, Nat.zero_le _, Hid.mk (fun j hj => by omega), Hid.mk (Below.refl _ _)⟩
    case round =>
      obtain ⟨k, rfl, hk, HA, HB⟩ := hrel
      obtain ⟨h1, h2⟩ := HBW.out wr HB.out
      have hw1 : IntKind.i64.wrap ((k : Int) + 1) = (k : Int) + 1 := by rw [IntKind.wrap_i64]; omega
      by_cases hlt : k < n
      · have hi : (k : Int) < n := by omega
        obtain ⟨a', rfl, c1⟩ := h1.at k hlt
        obtain ⟨b', rfl, c2⟩ := h2.at k hlt
        clear h1 h2
        by_cases he : L.getD k 0 = M.getD k 0
        · have HA2 : Hid (∀ j, j < k + 1 → L.getD j 0 = M.getD j 0) := Hid.mk (fun j hj => by
            rcases Nat.lt_or_ge j k with h | h
            · exact HA.out j h
            · obtain rfl : j = k := by omega
              exact he)
          rw [he] at c1
          generalize M.getD k 0 = y at *
          generalize L.getD k 0 = x at *
          clear he
          go_wp2
          go_quiet (fail)
          go_wp2
          go_roundw
          case rel => exact ⟨k + 1, by go_num, by omega, HA2, Hid.mk (HB.out.trans (below_drewN' _ _ _ HB.out.size))⟩
          case measure => simp [intOf]; omega
        · have HD : Hid (decide (L = M) = false) := Hid.mk (decide_eq_false (fun e => he (by rw [e])))
          have he2 : (L.getD k 0 == M.getD k 0) = false := by simpa using he
          generalize M.getD k 0 = y at *
          generalize L.getD k 0 = x at *
          go_wp2
          go_quiet (fail)
          go_wp2
          go_ret
          exact ⟨by rw [HD.out]; rfl, HB.out.trans (below_drewN' _ _ _ HB.out.size)⟩
      · have hi : ¬ (k : Int) < n := by omega
        have HD : Hid (decide (L = M) = true) := Hid.mk (decide_eq_true (by
          have e1 := HLL.out
          have e2 := HML.out
          refine List.ext_getElem (by omega) (fun j h1 h2 => ?_)
          have := HA.out j (by omega)
          simpa [List.getD, List.getElem?_eq_getElem h1, List.getElem?_eq_getElem h2] using this))
        clear h1 h2
        go_wp2
        go_ret
        exact ⟨by rw [HD.out]; rfl, HB.out⟩
  · have HD : Hid (decide (L = M) = false) := Hid.mk (decide_eq_false (fun e => hnm (by rw [← hL.1, ← hM.1, e])))
    have h1 : ¬ (n : Int) = m := by omega
    have h2 : ((n : Int) == m) = false := by simpa using h1
    clear hL hM
    go_enter Try.func22, Try.ntmps22
    go_wp2
    go_ret
    exact ⟨by rw [HD.out]; rfl, Below.refl _ _⟩
theorem byx_at {W : World} {g : Nat} {xs : List Int} (h : RAt W g xs) (i : Nat) (hi : i < xs.length) : W.cell? ⟨g, i, none⟩ = some (.int .u8 (xs.getD i 0)) ∧ W.frozen? ⟨g, i, none⟩ = false := by
  have := bytes_at h i 0 (by omega)
  rw [add_at] at this
  exact ⟨this, blk_free h i⟩
theorem RAt.set {W : World} {g : Nat} {xs : List Int} (h : RAt W g xs) (i : Nat) (y : Int) : RAt (W.setCell ⟨g, i, none⟩ (.int .u8 y)) g (xs.set i y) := by
  have := blk_set (i := i) (u := Value.int .u8 y) h
  rw [By_setArr] at this
  exact this
/-- The block of a number. -/
def blkV (v : Int) : List Int := ((zeros 1024).set 0 (bits BinOp.and IntKind.i64 v 255 % 256)).set 1000 (bits BinOp.and IntKind.i64 (v / 256) 255 % 256)
theorem blkV_length (v : Int) : (blkV v).length = 1024 := by simp [blkV, zeros_length]
theorem blkV_bound (v : Int) : ∀ x ∈ blkV v, 0 ≤ x ∧ x ≤ 255 := by
  intro x hx
  unfold blkV at hx
  rcases List.mem_or_eq_of_mem_set hx with hx | rfl
  · rcases List.mem_or_eq_of_mem_set hx with hx | rfl
    · exact zeros_bound _ x hx
    · omega
  · omega
set_option maxRecDepth 100000 in
set_option maxHeartbeats 4000000 in
theorem block_any (w : World) (v : Int) :
    Calls Try.prog 16 #[.int .i64 v] w fun e w' => e = .returned (.slice (some ⟨w.heap.size, 0, none⟩) 1024 1024) ∧ RAt w' w.heap.size (blkV v) ∧ Below w.heap.size w w' := by
  obtain ⟨w1, hmk, hR, hB⟩ : ∃ w1, (Instr.makeSlice 35 (.int .i64 ((1024 : Nat) : Int)) (.int .i64 ((1024 : Nat) : Int))).run Try.prog w = .ok (.slice (some ⟨w.heap.size, 0, none⟩) 1024 1024) w1 ∧ RAt w1 w.heap.size (zeros 1024) ∧ Below w.heap.size w w1 :=
    ⟨_, make_run w 1024 (by omega), blk_new w _, (Below.refl _ w).alloc (Nat.le_refl _) _⟩
  have HMK := Hid.mk hmk
  obtain ⟨c0, f0⟩ := byx_at hR 0 (by rw [zeros_length]; omega)
  obtain ⟨c1, f1⟩ := byx_at hR 1000 (by rw [zeros_length]; omega)
  have HR := Hid.mk hR
  have HB := Hid.mk hB
  clear hmk hR hB
  go_enter Try.func16, Try.ntmps16
  go_wp2_with (at_make; refine wpList_make_known rfl _ _ 35 rfl _ _ _ _ rfl rfl HMK.out ?_)
  go_ret
  exact ⟨rfl, (HR.out.set 0 _).set 1000 _, (HB.out.setCell (p := ⟨w.heap.size, 0, none⟩) (Nat.le_refl _) _).setCell (p := ⟨w.heap.size, 1000, none⟩) (Nat.le_refl _) _⟩
end Go.Proofs.Ytmbhjheoomlggaa
