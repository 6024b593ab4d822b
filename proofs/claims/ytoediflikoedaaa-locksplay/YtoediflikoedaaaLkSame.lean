/-
  Two lists of numbers, are they one.
-/
import Derived.Test.YtoediflikoedaaaAlIn
import Derived.Test.YtoediflikoedaaaLkStuck
import Derived.BigQuiet
namespace Go.Proofs.Ytoediflikoedaaa
open Go Go.Proofs Go.RowKit Go.Shelf
attribute [local go_sem] Oper.semAt_some
theorem owns_ints {w : World} {base : Nat} {v : Value} {n : Nat} {xs : List Int} (h : w.ownsRow base 3 1 v n (Iy xs)) (hn : 0 < n) : ∃ g c, v = .slice (some ⟨g, 0, none⟩) n c ∧ n ≤ c ∧ base ≤ g ∧ g < w.heap.size ∧ LAt w (some ⟨g, 0, none⟩) n xs ∧ ∀ i, i < n → w.cell? ⟨g, i, none⟩ = some (.int .i64 (xs.getD i 0)) := by
  have hlt := h
  obtain ⟨h1, h2⟩ := h
  rw [Iy_length, Nat.mul_one] at h1
  rcases h2 with ⟨_, rfl⟩ | ⟨g, cap, cur, rfl, hg, hh, hnc, hm, hsz, ht⟩
  · omega
  · have hgl := (hlt.lt g rfl).2
    have hc : ∀ i, i < n → w.cell? ⟨g, i, none⟩ = some (.int .i64 (xs.getD i 0)) := fun i hi => by
      rw [blk_cell hh, ← Array.getElem?_toList]
      have : (cur.toList.take (n * 1))[i]? = (Iy xs)[i]? := by rw [ht]
      rw [List.getElem?_take, if_pos (by omega), Iy_get xs i (by omega)] at this
      exact this
    exact ⟨g, cap, rfl, hnc, hg, hgl, ⟨h1, fun _ => ⟨_, rfl, hgl, fun i hi => by rw [add_at, Nat.zero_add]; exact hc i hi⟩⟩, hc⟩
theorem below_drewN' (w : World) (n B : Nat) (h : B ≤ w.heap.size) : Below B w (w.drewN n) := (show Below w.heap.size w (w.drewN n) from ⟨rfl, rfl, rfl, Nat.le_refl _, fun _ _ => rfl⟩).mono h
theorem owns_lat {w : World} {base : Nat} {v : Value} {n : Nat} {xs : List Int} (h : w.ownsRow base 3 1 v n (Iy xs)) : ∃ ao c, v = .slice ao n c ∧ LAt w ao n xs := by
  rcases Nat.eq_zero_or_pos n with h0 | h0
  · subst h0
    have hl : xs = [] := by
      have := h.1
      simp [Iy] at this
      exact this
    subst hl
    rcases h.2 with ⟨hv, _⟩ | ⟨g, cap, cur, hv, _⟩
    · exact ⟨none, 0, hv, rfl, fun h => by omega⟩
    · exact ⟨_, cap, hv, rfl, fun h => by omega⟩
  · obtain ⟨g, c, hv, _, _, _, hl, _⟩ := owns_ints h h0
    exact ⟨_, c, hv, hl⟩
theorem LAt.below {W W' : World} {ao : Option Addr} {n B : Nat} {xs : List Int} (h : LAt W ao n xs) (hB : Below B W W') (ha : ∀ a, ao = some a → a.block < W.heap.size → a.block < B) : LAt W' ao n xs :=
  ⟨h.1, fun h0 => by
    obtain ⟨a, e, hl, hc⟩ := h.2 h0
    exact ⟨a, e, Nat.lt_of_lt_of_le hl hB.size, fun i hi => by rw [hB.cell (p := a.add i) (by rw [add_block]; exact ha a e hl)]; exact hc i hi⟩⟩
theorem LAt.next {W W' : World} {ao : Option Addr} {n : Nat} {xs : List Int} (h : LAt W ao n xs) (hB : Below W.heap.size W W') : LAt W' ao n xs := h.below hB (fun _ _ h => h)
set_option maxRecDepth 100000 in
set_option maxHeartbeats 4000000 in
theorem sameints_any (w : World) (a b : Option Addr) (n m c d : Nat) (L M : List Int) (hL : LAt w a n L) (hM : LAt w b m M) (hn : n ≤ 16777216) (hm : m ≤ 16777216) :
    Calls Try.prog 21 #[.slice a n c, .slice b m d] w fun e w' => e = .returned (.bool (decide (L = M))) ∧ Below w.heap.size w w' := by
  by_cases hnm : n = m
  · subst hnm
    have HBW : Hid (∀ wr, Below w.heap.size w wr → LAt wr a n L ∧ LAt wr b n M) := Hid.mk (fun wr h => ⟨hL.next h, hM.next h⟩)
    have HLL := Hid.mk hL.1
    have HML := Hid.mk hM.1
    clear hL hM
    go_enter Try.func21, Try.ntmps21
    go_wp2
    go_loopw [5] (fun i wr => ∃ k : Nat, i = .int .i64 k ∧ k ≤ n ∧ Hid (∀ j, j < k → L.getD j 0 = M.getD j 0) ∧ Hid (Below w.heap.size w wr)) (fun i _ => n - (Go.RowKit.intOf i).toNat)
    case atStart => exact ⟨0, rfl, Nat.zero_le _, Hid.mk (fun j hj => by omega), Hid.mk (Below.refl _ _)⟩
    case round =>
      obtain ⟨k, rfl, hk, HA, HB⟩ := hrel
      obtain ⟨h1, h2⟩ := HBW.out wr HB.out
      have hw1 : IntKind.i64.wrap ((k : Int) + 1) = (k : Int) + 1 := by rw [IntKind.wrap_i64]; omega
      by_cases hlt : k < n
      · have hi : (k : Int) < n := by omega
        obtain ⟨a', rfl, c1⟩ := h1.at k hlt
        obtain ⟨b', rfl, c2⟩ := h2.at k hlt
        clear h1 h2
        by_cases he : L.getD k 0 = M.getD k 0
        · have HA2 : Hid (∀ j, j < k + 1 → L.getD j 0 = M.getD j 0) := Hid.mk (fun j hj => by
            rcases Nat.lt_or_ge j k with h | h
            · exact HA.out j h
            · obtain rfl : j = k := by omega
              exact he)
          rw [he] at c1
          generalize M.getD k 0 = y at *
          generalize L.getD k 0 = x at *
          clear he
          go_wp2
          go_quiet (fail)
          go_wp2
          go_roundw
          case rel => exact ⟨k + 1, by go_num, by omega, HA2, Hid.mk (HB.out.trans (below_drewN' _ _ _ HB.out.size))⟩
          case measure => simp [Go.RowKit.intOf]; omega
        · have HD : Hid (decide (L = M) = false) := Hid.mk (decide_eq_false (fun e => he (by rw [e])))
          have he2 : (L.getD k 0 == M.getD k 0) = false := by simpa using he
          generalize M.getD k 0 = y at *
          generalize L.getD k 0 = x at *
          go_wp2
          go_quiet (fail)
          go_wp2
          go_ret
          exact ⟨by rw [HD.out]; rfl, HB.out.trans (below_drewN' _ _ _ HB.out.size)⟩
      · have hi : ¬ (k : Int) < n := by omega
        have HD : Hid (decide (L = M) = true) := Hid.mk (decide_eq_true (by
          have e1 := HLL.out
          have e2 := HML.out
          refine List.ext_getElem (by omega) (fun j h1 h2 => ?_)
          have := HA.out j (by omega)
          simpa [List.getD, List.getElem?_eq_getElem h1, List.getElem?_eq_getElem h2] using this))
        clear h1 h2
        go_wp2
        go_ret
        exact ⟨by rw [HD.out]; rfl, HB.out⟩
  · have HD : Hid (decide (L = M) = false) := Hid.mk (decide_eq_false (fun e => hnm (by rw [← hL.1, ← hM.1, e])))
    have h1 : ¬ (n : Int) = m := by omega
    have h2 : ((n : Int) == m) = false := by simpa using h1
    clear hL hM
    go_enter Try.func21, Try.ntmps21
    go_wp2
    go_ret
    exact ⟨by rw [HD.out]; rfl, Below.refl _ _⟩
theorem lat_one (W : World) (x : Int) : LAt (W.alloc (.cells #[.int .i64 x] 3)) (some ⟨W.heap.size, 0, none⟩) 1 [x] := by
  have hb := blk_new W (.cells #[.int .i64 x] 3)
  refine ⟨rfl, fun _ => ⟨_, rfl, lt_of_block hb, fun j hj => ?_⟩⟩
  obtain rfl : j = 0 := by omega
  rw [add_at, blk_cell hb]
  rfl
end Go.Proofs.Ytoediflikoedaaa
