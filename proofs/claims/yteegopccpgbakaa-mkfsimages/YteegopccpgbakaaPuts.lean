/-
  Numbers as bytes: put and fill of the reference.
-/
import Derived.Test.YteegopccpgbakaaNums
namespace Go.Proofs.Yteegopccpgbakaa
open Go Go.Proofs Go.RowKit Go.Shelf
/-- append(b, make([]byte, m)...). -/
theorem append_zeros_run (w : World) (base : Nat) (v : Value) (n m : Nat) (xs : List Int) (hown : w.ownsRow base 5 1 v n (By xs)) (hbase : base ≤ w.heap.size) (hv : v ≠ .slice none 0 0) (hm : 0 < m) (hbig : n + m ≤ 16777216) :
    ∃ v' w', (Builtin.append_ #[26, 3] 26 #[v, .int .i64 m]).run Try.prog w = .ok v' w' ∧ w'.ownsRow base 5 1 v' (n + m) (By (xs ++ List.replicate m 0)) ∧ w.grownBy w' v.ownBlock := by
  obtain ⟨i0, hi, hz0, hz1, hz2⟩ := info5p
  have hlx : xs.length = n := by have := hown.1; rw [By_length] at this; omega
  have hzc : ∀ k, Builtin.zeroCells (Value.int .u8 0).cells k = (By (List.replicate k 0)).toArray := by
    intro k
    apply Array.ext'
    rw [show (By (List.replicate k 0)).toArray.toList = List.replicate k (Value.int .u8 0) by simp [By], List.eq_replicate_iff]
    simp [Builtin.zeroCells, Value.cells, Nat.mod_one]
  have hw : IntKind.i64.wrap (m : Int) = m := by rw [IntKind.wrap_i64]; omega
  have hneg : ¬ ((m : Int) < 0) := by omega
  have h48 : ¬ (281474976710656 < (m : Int)) := by omega
  have hlen : (By (xs ++ List.replicate m 0)).length = n + m := by rw [By_length]; simp [hlx]
  have hbyapp : By (xs ++ List.replicate m 0) = By xs ++ By (List.replicate m 0) := by simp [By]
  have has : ∀ w, (asInt (.int .i64 (m : Int))).run Try.prog w = .ok (m : Int) w := by intro w; simp [asInt, asIntOf]
  have h0 : m ≠ 0 := by omega
  rcases hown.2 with ⟨rfl, rfl⟩ | ⟨g, cap, cur, rfl, hbg, hg, hnc, hcm, hcs, htake⟩
  · exact absurd rfl hv
  · by_cases hroom : n + m ≤ cap
    · have hst := run_storeCells_at Try.prog g n 5 (By (List.replicate m 0)) 0 cur w hg (by rw [By_length]; simp; omega) (By_one _)
      simp only [Nat.add_zero] at hst
      refine ⟨.slice (some ⟨g, 0, none⟩) (n + m) cap, w.setRow g (cur.toList.take n ++ By (List.replicate m 0) ++ cur.toList.drop (n + (By (List.replicate m 0)).length)).toArray, ?_, ?_, ?_⟩
      · simp [Builtin.append_, run_underlying Try.underlying26, run_underlying Try.underlying3, sizeOf, typeInfo, hi, hz1, hz2, zeroValue, hz0, has, hw, hneg, h48, hroom, hzc, Addr.add_lit, hst, h0]
      · refine ⟨by rw [hlen]; omega, .inr ⟨g, cap, _, rfl, hbg, setRow_heap w g cur _ 5 _ hg, hroom, hcm, ?_, ?_⟩⟩
        · simp only [List.size_toArray, List.length_append, List.length_take, List.length_drop, Array.length_toList, By_length, List.length_replicate]
          omega
        · rw [Nat.mul_one] at htake
          rw [htake, ← hbyapp, show (n + m) * 1 = (By (xs ++ List.replicate m 0)).length by rw [hlen]; omega]
          exact List.take_left
      · exact ⟨rfl, rfl, rfl, by simp, fun k _ hk => setRow_other w g k _ (fun e => hk (by simp [Value.ownBlock, e]))⟩
    · refine ⟨.slice (some ⟨w.heap.size, 0, none⟩) (n + m) (grownCap w (n + m) cap 5), w.drew.alloc (.cells (By xs ++ By (List.replicate m 0) ++ By (List.replicate (grownCap w (n + m) cap 5 - (n + m)) 0)).toArray 5), ?_, ?_, ?_⟩
      · have holds : ∀ j u, (By xs)[j]? = some u → w.cell? ((⟨g, 0, none⟩ : Addr).add j) = some u := hown.cells (g := g) rfl
        have hfo := run_firstCells_some (P := Try.prog) w.drew 1 n ⟨g, 0, none⟩ n cap (By xs) (by rw [By_length, hlx]; omega) (by simpa using holds)
        have h63' : ¬ (9223372036854775807 < ((n : Int) + (m : Int))) := by omega
        have hfit := growslice_fits (need := n + m) (old := cap) (bytes := 1) (by omega) (by omega)
        have h48' : ¬ (281474976710656 < Builtin.nextslicecap (n + m) cap) := by omega
        simp [Builtin.append_, run_underlying Try.underlying26, run_underlying Try.underlying3, sizeOf, typeInfo, hi, hz1, hz2, zeroValue, hz0, has, hw, hneg, h48, hroom, hzc, h63', h48', Question.forced, hfo, newRow, grownCap, h0]
      · have hge := grownCap_ge w (n + m) cap 5
        have hcm2 : grownCap w (n + m) cap 5 ≤ maxLen := grownCap_le_maxLen w (n + m) cap 5 (by unfold maxLen; omega)
        refine ⟨by rw [hlen]; omega, .inr ⟨w.heap.size, _, _, rfl, hbase, heap_alloc_new w.drew _, hge, hcm2, ?_, ?_⟩⟩
        · simp only [List.size_toArray, List.length_append, By_length, List.length_replicate]
          omega
        · rw [← hbyapp, show (n + m) * 1 = (By (xs ++ List.replicate m 0)).length by rw [hlen]; omega]
          exact List.take_left
      · exact ⟨rfl, rfl, rfl, by simp, fun k hk _ => Below.heap_alloc w.drew _ k hk⟩
theorem zero_cells (k : Nat) : Builtin.zeroCells (Value.int .u8 0).cells k = (By (List.replicate k 0)).toArray := by
  apply Array.ext'
  rw [show (By (List.replicate k 0)).toArray.toList = List.replicate k (Value.int .u8 0) by simp [By], List.eq_replicate_iff]
  simp [Builtin.zeroCells, Value.cells, Nat.mod_one]
/-- append(nil, make([]byte, m)...). -/
theorem append_zeros_nil (w : World) (m : Nat) (hm : 0 < m) (hbig : m ≤ 16777216) :
    ∃ v' w', (Builtin.append_ #[26, 3] 26 #[.slice none 0 0, .int .i64 m]).run Try.prog w = .ok v' w' ∧ w'.ownsRow w.heap.size 5 1 v' m (By (List.replicate m 0)) ∧ w.grownBy w' none := by
  obtain ⟨i0, hi, hz0, hz1, hz2⟩ := info5p
  have hzc := zero_cells
  have hw : IntKind.i64.wrap (m : Int) = m := by rw [IntKind.wrap_i64]; omega
  have hneg : ¬ ((m : Int) < 0) := by omega
  have h48 : ¬ (281474976710656 < (m : Int)) := by omega
  have has : ∀ w, (asInt (.int .i64 (m : Int))).run Try.prog w = .ok (m : Int) w := by intro w; simp [asInt, asIntOf]
  have h0 : m ≠ 0 := by omega
  have hroom : ¬ (m ≤ 0) := by omega
  refine ⟨.slice (some ⟨w.heap.size, 0, none⟩) m (grownCap w m 0 5), w.drew.alloc (.cells (By (List.replicate m 0) ++ By (List.replicate (grownCap w m 0 5 - m) 0)).toArray 5), ?_, ?_, ?_⟩
  · have h63' : ¬ (9223372036854775807 < (m : Int)) := by omega
    have hfit := growslice_fits (need := m) (old := 0) (bytes := 1) (by omega) (by omega)
    have h48' : ¬ (281474976710656 < Builtin.nextslicecap m 0) := by omega
    simp [Builtin.append_, run_underlying Try.underlying26, run_underlying Try.underlying3, sizeOf, typeInfo, hi, hz1, hz2, zeroValue, hz0, has, hw, hneg, h48, hzc, h63', h48', Question.forced, newRow, grownCap, h0, Builtin.firstCells]
  · have hge := grownCap_ge w m 0 5
    have hcm2 : grownCap w m 0 5 ≤ maxLen := grownCap_le_maxLen w m 0 5 (by unfold maxLen; omega)
    refine ⟨by rw [By_length]; simp, .inr ⟨w.heap.size, _, _, rfl, Nat.le_refl _, heap_alloc_new w.drew _, hge, hcm2, ?_, ?_⟩⟩
    · simp only [List.size_toArray, List.length_append, By_length, List.length_replicate]
      omega
    · rw [show m * 1 = (By (List.replicate m 0)).length by rw [By_length]; simp]
      exact List.take_left
  · exact ⟨rfl, rfl, rfl, by simp, fun k hk _ => Below.heap_alloc w.drew _ k hk⟩
theorem append_zeros_none (w : World) (base : Nat) (v : Value) (n : Nat) (xs : List Int) (hown : w.ownsRow base 5 1 v n (By xs)) :
    (Builtin.append_ #[26, 3] 26 #[v, .int .i64 0]).run Try.prog w = .ok v w := by
  obtain ⟨i0, hi, hz0, hz1, hz2⟩ := info5p
  have hw : IntKind.i64.wrap 0 = 0 := by decide
  have has : ∀ w, (asInt (.int .i64 0)).run Try.prog w = .ok 0 w := by intro w; simp [asInt, asIntOf]
  rcases hown.2 with ⟨rfl, rfl⟩ | ⟨g, cap, cur, rfl, hbg, hg, hnc, hcm, hcs, htake⟩
  · simp [Builtin.append_, run_underlying Try.underlying26, run_underlying Try.underlying3, sizeOf, typeInfo, hi, has, hw]
  · simp [Builtin.append_, run_underlying Try.underlying26, run_underlying Try.underlying3, sizeOf, typeInfo, hi, has, hw, hnc, storeCells]
theorem append_zeros_any (w : World) (base : Nat) (v : Value) (n m : Nat) (xs : List Int) (hown : w.ownsRow base 5 1 v n (By xs)) (hbase : base ≤ w.heap.size) (hbig : n + m ≤ 16777216) :
    ∃ v' w', (Builtin.append_ #[26, 3] 26 #[v, .int .i64 m]).run Try.prog w = .ok v' w' ∧ w'.ownsRow base 5 1 v' (n + m) (By (xs ++ List.replicate m 0)) ∧ Below base w w' := by
  rcases Nat.eq_zero_or_pos m with rfl | hm
  · exact ⟨v, w, append_zeros_none w base v n xs hown, by simpa using hown, Below.refl _ _⟩
  · rcases Nat.eq_zero_or_pos n with rfl | hn
    · obtain rfl : xs = [] := List.eq_nil_of_length_eq_zero (by have := hown.1; rw [By_length] at this; omega)
      rcases hown.2 with ⟨rfl, _⟩ | ⟨g, cap, cur, rfl, hbg, hg, hnc, hcm, hcs, htake⟩
      · obtain ⟨v', w', h1, h2, h3⟩ := append_zeros_nil w m hm (by omega)
        exact ⟨v', w', h1, by simpa using owns_base h2 hbase, (Below.refl _ w).grown h3 hbase (by simp)⟩
      · obtain ⟨v', w', h1, h2, h3⟩ := append_zeros_run w base _ 0 m [] hown hbase (by simp) hm hbig
        exact ⟨v', w', h1, h2, (Below.refl _ w).grown h3 hbase (fun k hk => (hown.lt k hk).1)⟩
    · obtain ⟨v', w', h1, h2, h3⟩ := append_zeros_run w base v n m xs hown hbase (by rintro rfl; rcases hown.2 with h2 | ⟨_, _, _, h2, _⟩; omega; cases h2) hm hbig
      exact ⟨v', w', h1, h2, (Below.refl _ w).grown h3 hbase (fun k hk => (hown.lt k hk).1)⟩
/-- A row of bytes that one may append to: an owned one, or one that has no room. -/
def Src (w : World) (B : Nat) (v : Value) (n : Nat) (xs : List Int) : Prop := w.ownsRow B 5 1 v n (By xs) ∨ ∃ a, v = .slice (some a) n n ∧ BAt w (some a) n xs
theorem append1_own (W : World) (B : Nat) (v : Value) (n : Nat) (xs : List Int) (y : Int) (hown : W.ownsRow B 5 1 v n (By xs)) (hB : B ≤ W.heap.size) (hn : n ≤ 16777216) :
    ∃ v' W', (Builtin.append_ #[26, 26] 26 #[v, .slice (some ⟨W.heap.size, 0, none⟩) 1 1]).run Try.prog (W.alloc (.cells #[.int .u8 y] 5)) = .ok v' W' ∧ W'.ownsRow B 5 1 v' (n + 1) (By (xs ++ [y])) ∧ Below B W W' := by
  obtain ⟨i0, hi, hz0, hz1, hz2⟩ := info5p
  have hnew := blk_new W (.cells #[.int .u8 y] 5)
  obtain ⟨v3, W3, hr, hown3, hg3, _⟩ := run_append_own (P := Try.prog) (W.alloc (.cells #[.int .u8 y] 5)) B 26 26 5 i0 (.int .u8 0) 1 1 Try.underlying26 hi hz0 hz1 hz2 rfl (by decide) v n (By xs) (hown.alloc _) ⟨W.heap.size, 0, none⟩ 1 1 [.int .u8 y] rfl (fun j u hj => by
    match j, hj with
    | 0, hj =>
      cases hj
      rw [add_at, blk_cell hnew]; rfl) (by simp [Value.oneCell']) (by unfold maxLen; omega) (by omega) (by simp; omega)
  have e : By xs ++ [.int .u8 y] = By (xs ++ [y]) := by simp [By]
  rw [e] at hown3
  refine ⟨v3, W3, hr, hown3, ?_⟩
  refine ((Below.refl _ W).alloc hB _).grown hg3 (by simp; omega) (fun k hk => ?_)
  exact (hown.lt k hk).1
theorem append1_full (W : World) (a : Addr) (n : Nat) (xs : List Int) (y : Int) (hb : BAt W (some a) n xs) (hn : n ≤ 16777216) :
    ∃ v' W', (Builtin.append_ #[26, 26] 26 #[.slice (some a) n n, .slice (some ⟨W.heap.size, 0, none⟩) 1 1]).run Try.prog (W.alloc (.cells #[.int .u8 y] 5)) = .ok v' W' ∧ W'.ownsRow W.heap.size 5 1 v' (n + 1) (By (xs ++ [y])) ∧ Below W.heap.size W W' := by
  obtain ⟨i0, hi, hz0, hz1, hz2⟩ := info5p
  have hnew := blk_new W (.cells #[.int .u8 y] 5)
  have hb2 : BAt (W.alloc (.cells #[.int .u8 y] 5)) (some a) n xs := hb.only (Only.of_new (fun _ => False) ((Below.refl _ W).alloc (Nat.le_refl _) _)) (fun _ _ _ h => h)
  obtain ⟨v3, W3, hr, hown3, hg3⟩ := run_append_arg_grows (P := Try.prog) (W.alloc (.cells #[.int .u8 y] 5)) 26 26 5 i0 (.int .u8 0) 1 1 Try.underlying26 hi hz0 hz1 hz2 rfl (by decide) a n n (By xs) (by rw [By_length, hb.1, Nat.mul_one]) (fun j u hj => by
      have hjl := (List.getElem?_eq_some_iff.1 hj).1
      rw [By_length] at hjl
      rw [By_get xs j hjl] at hj
      obtain ⟨a', e, hc⟩ := hb2.at j (by rw [← hb.1]; exact hjl)
      cases e
      rw [hc]
      exact hj) ⟨W.heap.size, 0, none⟩ 1 1 [.int .u8 y] rfl (fun j u hj => by
    match j, hj with
    | 0, hj =>
      cases hj
      rw [add_at, blk_cell hnew]; rfl) (by omega) (by unfold maxLen; omega) (by omega)
  have e : By xs ++ [.int .u8 y] = By (xs ++ [y]) := by simp [By]
  rw [e] at hown3
  exact ⟨v3, W3, hr, owns_base hown3 (by simp), ((Below.refl _ W).alloc (Nat.le_refl _) _).grown hg3 (by simp) (by simp)⟩
/-- append(b, y). -/
theorem append1_run (W : World) (B : Nat) (v : Value) (n : Nat) (xs : List Int) (y : Int) (hsrc : Src W B v n xs) (hB : B ≤ W.heap.size) (hn : n ≤ 16777216) :
    ∃ v' W', (Builtin.append_ #[26, 26] 26 #[v, .slice (some ⟨W.heap.size, 0, none⟩) 1 1]).run Try.prog (W.alloc (.cells #[.int .u8 y] 5)) = .ok v' W' ∧ W'.ownsRow B 5 1 v' (n + 1) (By (xs ++ [y])) ∧ Below B W W' := by
  rcases hsrc with h | ⟨a, rfl, h⟩
  · exact append1_own W B v n xs y h hB hn
  · obtain ⟨v', W', h1, h2, h3⟩ := append1_full W a n xs y h hn
    exact ⟨v', W', h1, owns_base h2 hB, h3.mono hB⟩
set_option maxHeartbeats 1000000 in
theorem rput_any (w : World) (B : Nat) (v : Value) (n K : Nat) (xs : List Int) (m : Int) (hown : Src w B v n xs) (hB : B ≤ w.heap.size) (hn : n ≤ 1024) (hK1 : 0 < K) (hK : K ≤ 4) (h0 : 0 ≤ m) (h1 : m < 4294967296) :
    Calls Try.prog 31 #[v, .int .i64 m, .int .i64 K] w fun e w' => ∃ v', e = .returned v' ∧ w'.ownsRow B 5 1 v' (n + K) (By (xs ++ leL m K)) ∧ Below B w w' := by
  have HO := Hid.mk hown
  clear hown
  go_enter Try.func31, Try.ntmps31
  go_wp2
  go_loopw [0, 7] (fun b i wr => ∃ k : Nat, k ≤ K ∧ i = .int .i64 k ∧ Src wr B b (n + k) (xs ++ leL m k) ∧ (0 < k → wr.ownsRow B 5 1 b (n + k) (By (xs ++ leL m k))) ∧ Below B w wr) (fun _ i _ => K - (intOf i).toNat)
  case atStart => exact ⟨0, by omega, rfl, by simpa [leL] using HO.out, fun h => by omega, Below.refl _ _⟩
  case round =>
    obtain ⟨k, hk, rfl, hb, hb2, hbw⟩ := hrel
    by_cases hlt : k < K
    · have hr2 : 0 ≤ m / 256 ^ k := Int.ediv_nonneg h0 (Int.pow_nonneg (by decide))
      have hr3 : m / 256 ^ k ≤ m := Int.ediv_le_self _ h0
      have e2 : (2 : Int) ^ (8 * k) = 256 ^ k := by rw [Int.pow_mul]; rfl
      have hl := low64 (m / 256 ^ k) hr2 (by omega)
      have hyb : 0 ≤ m / 256 ^ k % 256 ∧ m / 256 ^ k % 256 ≤ 255 := by omega
      obtain ⟨v', W', hr, hown', hB'⟩ := append1_run wr B _ (n + k) _ (m / 256 ^ k % 256) hb (Nat.le_trans hB hbw.size) (by omega)
      have HN := Hid.mk (show W'.ownsRow B 5 1 v' (n + (k + 1)) (By (xs ++ leL m (k + 1))) by rw [leL_succ, ← List.append_assoc]; exact hown')
      have HB2 := Hid.mk (hbw.trans hB')
      clear hown' hB' hb hb2 hbw
      generalize m / 256 ^ k % 256 = y at *
      have HR := Hid.mk hr
      clear hr
      go_wp2_with (at_builtin; refine wpList_append_known rfl (.tmp 13) (.tmp 21) 26 rfl _ (.slice (some ⟨wr.heap.size, 0, none⟩) 1 1) _ _ rfl rfl HR.out ?_)
      go_roundw
      case rel => exact ⟨k + 1, by omega, by go_num, .inl HN.out, fun _ => HN.out, HB2.out⟩
      case measure => simp [intOf]; omega
    · have hge : (K : Int) ≤ k := by omega
      obtain rfl : k = K := by omega
      have HN := Hid.mk (hb2 hK1)
      have HB2 := Hid.mk hbw
      clear hb hb2 hbw
      go_wp2
      go_ret
      exact ⟨_, rfl, HN.out, HB2.out⟩
set_option maxHeartbeats 1000000 in
theorem fill_any (w : World) (B : Nat) (v : Value) (n m : Nat) (xs : List Int) (hown : w.ownsRow B 5 1 v n (By xs)) (hB : B ≤ w.heap.size) (hm : n ≤ m) (hm2 : m ≤ 1024) :
    Calls Try.prog 32 #[v, .int .i64 m] w fun e w' => ∃ v', e = .returned v' ∧ w'.ownsRow B 5 1 v' m (By (xs ++ zeros (m - n))) ∧ Below B w w' := by
  obtain ⟨v', w', hr, ho, hb⟩ := append_zeros_any w B v n (m - n) xs hown hB (by omega)
  rw [Nat.add_sub_cancel' hm] at ho
  obtain ⟨ao, c, rfl, -⟩ := owns_BAt hown
  have e : (m : Int) - (n : Int) = ((m - n : Nat) : Int) := by omega
  have HR := Hid.mk hr
  have HO := Hid.mk ho
  have HB := Hid.mk hb
  clear hr ho hb hown
  generalize m - n = k at *
  have hk : k ≤ 1024 := by omega
  have hw : IntKind.i64.wrap (k : Int) = k := by rw [IntKind.wrap_i64]; omega
  go_enter Try.func32, Try.ntmps32
  go_wp2_with (at_builtin; refine wpList_appendz_known rfl (.tmp 5) (.tmp 9) 26 3 rfl _ (.int .i64 k) _ _ rfl (by simp [Act.eval]) HR.out ?_)
  go_ret
  exact ⟨_, rfl, HO.out, HB.out⟩
end Go.Proofs.Yteegopccpgbakaa
