/-
  Numbers as bytes: put and fill of the reference.
-/
import Derived.Test.YtbahbhaoimabdaaNums
namespace Go.Proofs.Ytbahbhaoimabdaa
open Go Go.Proofs Go.RowKit Go.Shelf
set_option maxRecDepth 100000 in
/-- append(b, make([]byte, m)...). -/
theorem append_zeros_run (w : World) (base : Nat) (v : Value) (n m : Nat) (xs : List Int) (hown : w.ownsRow base 5 1 v n (By xs)) (hbase : base ≤ w.heap.size) (hv : v ≠ .slice none 0 0) (hm : 0 < m) (hbig : n + m ≤ 16777216) :
    ∃ v' w', (Builtin.append_ #[42, 3] 42 #[v, .int .i64 m]).run Try.prog w = .ok v' w' ∧ w'.ownsRow base 5 1 v' (n + m) (By (xs ++ List.replicate m 0)) ∧ w.grownBy w' v.ownBlock := by
  obtain ⟨i0, hi, hz0, hz1, hz2⟩ := info5p
  have hlx : xs.length = n := by have := hown.1; rw [By_length] at this; omega
  have hzc : ∀ k, Builtin.zeroCells (Value.int .u8 0).cells k = (By (List.replicate k 0)).toArray := by
    intro k
    apply Array.ext'
    rw [show (By (List.replicate k 0)).toArray.toList = List.replicate k (Value.int .u8 0) by simp [By], List.eq_replicate_iff]
    simp [Builtin.zeroCells, Value.cells, Nat.mod_one]
  have hw : IntKind.i64.wrap (m : Int) = m := by rw [IntKind.wrap_i64]; omega
  have hneg : ¬ ((m : Int) < 0) := by omega
  have h48 : ¬ (281474976710656 < (m : Int)) := by omega
  have hlen : (By (xs ++ List.replicate m 0)).length = n + m := by rw [By_length]; simp [hlx]
  have hbyapp : By (xs ++ List.replicate m 0) = By xs ++ By (List.replicate m 0) := by simp [By]
  have has : ∀ w, (asInt (.int .i64 (m : Int))).run Try.prog w = .ok (m : Int) w := by intro w; simp [asInt, asIntOf]
  have h0 : m ≠ 0 := by omega
  rcases hown.2 with ⟨rfl, rfl⟩ | ⟨g, cap, cur, rfl, hbg, hg, hnc, hcm, hcs, htake⟩
  · exact absurd rfl hv
  · by_cases hroom : n + m ≤ cap
    · have hst := run_storeCells_at Try.prog g n 5 (By (List.replicate m 0)) 0 cur w hg (by rw [By_length]; simp; omega) (By_one _)
      simp only [Nat.add_zero] at hst
      refine ⟨.slice (some ⟨g, 0, none⟩) (n + m) cap, w.setRow g (cur.toList.take n ++ By (List.replicate m 0) ++ cur.toList.drop (n + (By (List.replicate m 0)).length)).toArray, ?_, ?_, ?_⟩
      · simp [Builtin.append_, run_underlying Try.underlying42, run_underlying Try.underlying3, sizeOf, typeInfo, hi, hz1, hz2, zeroValue, hz0, has, hw, hneg, h48, hroom, hzc, Addr.add_lit, hst, h0]
      · refine ⟨by rw [hlen]; omega, .inr ⟨g, cap, _, rfl, hbg, setRow_heap w g cur _ 5 _ hg, hroom, hcm, ?_, ?_⟩⟩
        · simp only [List.size_toArray, List.length_append, List.length_take, List.length_drop, Array.length_toList, By_length, List.length_replicate]
          omega
        · rw [Nat.mul_one] at htake
          rw [htake, ← hbyapp, show (n + m) * 1 = (By (xs ++ List.replicate m 0)).length by rw [hlen]; omega]
          exact List.take_left
      · exact ⟨rfl, rfl, rfl, by simp, fun k _ hk => setRow_other w g k _ (fun e => hk (by simp [Value.ownBlock, e]))⟩
    · refine ⟨.slice (some ⟨w.heap.size, 0, none⟩) (n + m) (grownCap w (n + m) cap 5), w.drew.alloc (.cells (By xs ++ By (List.replicate m 0) ++ By (List.replicate (grownCap w (n + m) cap 5 - (n + m)) 0)).toArray 5), ?_, ?_, ?_⟩
      · have holds : ∀ j u, (By xs)[j]? = some u → w.cell? ((⟨g, 0, none⟩ : Addr).add j) = some u := hown.cells (g := g) rfl
        have hfo := run_firstCells_some (P := Try.prog) w.drew 1 n ⟨g, 0, none⟩ n cap (By xs) (by rw [By_length, hlx]; omega) (by simpa using holds)
        have h63' : ¬ (9223372036854775807 < ((n : Int) + (m : Int))) := by omega
        have hfit := growslice_fits (need := n + m) (old := cap) (bytes := 1) (by omega) (by omega)
        have h48' : ¬ (281474976710656 < Builtin.nextslicecap (n + m) cap) := by omega
        simp [Builtin.append_, run_underlying Try.underlying42, run_underlying Try.underlying3, sizeOf, typeInfo, hi, hz1, hz2, zeroValue, hz0, has, hw, hneg, h48, hroom, hzc, h63', h48', Question.forced, hfo, newRow, grownCap, h0]
      · have hge := grownCap_ge w (n + m) cap 5
        have hcm2 : grownCap w (n + m) cap 5 ≤ maxLen := grownCap_le_maxLen w (n + m) cap 5 (by unfold maxLen; omega)
        refine ⟨by rw [hlen]; omega, .inr ⟨w.heap.size, _, _, rfl, hbase, heap_alloc_new w.drew _, hge, hcm2, ?_, ?_⟩⟩
        · simp only [List.size_toArray, List.length_append, By_length, List.length_replicate]
          omega
        · rw [← hbyapp, show (n + m) * 1 = (By (xs ++ List.replicate m 0)).length by rw [hlen]; omega]
          exact List.take_left
      · exact ⟨rfl, rfl, rfl, by simp, fun k hk _ => Below.heap_alloc w.drew _ k hk⟩
set_option maxRecDepth 100000 in
theorem zero_cells (k : Nat) : Builtin.zeroCells (Value.int .u8 0).cells k = (By (List.replicate k 0)).toArray := by
  apply Array.ext'
  rw [show (By (List.replicate k 0)).toArray.toList = List.replicate k (Value.int .u8 0) by simp [By], List.eq_replicate_iff]
  simp [Builtin.zeroCells, Value.cells, Nat.mod_one]
set_option maxRecDepth 100000 in
/-- append(nil, make([]byte, m)...). -/
theorem append_zeros_nil (w : World) (m : Nat) (hm : 0 < m) (hbig : m ≤ 16777216) :
    ∃ v' w', (Builtin.append_ #[42, 3] 42 #[.slice none 0 0, .int .i64 m]).run Try.prog w = .ok v' w' ∧ w'.ownsRow w.heap.size 5 1 v' m (By (List.replicate m 0)) ∧ w.grownBy w' none := by
  obtain ⟨i0, hi, hz0, hz1, hz2⟩ := info5p
  have hzc := zero_cells
  have hw : IntKind.i64.wrap (m : Int) = m := by rw [IntKind.wrap_i64]; omega
  have hneg : ¬ ((m : Int) < 0) := by omega
  have h48 : ¬ (281474976710656 < (m : Int)) := by omega
  have has : ∀ w, (asInt (.int .i64 (m : Int))).run Try.prog w = .ok (m : Int) w := by intro w; simp [asInt, asIntOf]
  have h0 : m ≠ 0 := by omega
  have hroom : ¬ (m ≤ 0) := by omega
  refine ⟨.slice (some ⟨w.heap.size, 0, none⟩) m (grownCap w m 0 5), w.drew.alloc (.cells (By (List.replicate m 0) ++ By (List.replicate (grownCap w m 0 5 - m) 0)).toArray 5), ?_, ?_, ?_⟩
  · have h63' : ¬ (9223372036854775807 < (m : Int)) := by omega
    have hfit := growslice_fits (need := m) (old := 0) (bytes := 1) (by omega) (by omega)
    have h48' : ¬ (281474976710656 < Builtin.nextslicecap m 0) := by omega
    simp [Builtin.append_, run_underlying Try.underlying42, run_underlying Try.underlying3, sizeOf, typeInfo, hi, hz1, hz2, zeroValue, hz0, has, hw, hneg, h48, hzc, h63', h48', Question.forced, newRow, grownCap, h0, Builtin.firstCells]
  · have hge := grownCap_ge w m 0 5
    have hcm2 : grownCap w m 0 5 ≤ maxLen := grownCap_le_maxLen w m 0 5 (by unfold maxLen; omega)
    refine ⟨by rw [By_length]; simp, .inr ⟨w.heap.size, _, _, rfl, Nat.le_refl _, heap_alloc_new w.drew _, hge, hcm2, ?_, ?_⟩⟩
    · simp only [List.size_toArray, List.length_append, By_length, List.length_replicate]
      omega
    · rw [show m * 1 = (By (List.replicate m 0)).length by rw [By_length]; simp]
      exact List.take_left
  · exact ⟨rfl, rfl, rfl, by simp, fun k hk _ => Below.heap_alloc w.drew _ k hk⟩
set_option maxRecDepth 100000 in
theorem append_zeros_none (w : World) (base : Nat) (v : Value) (n : Nat) (xs : List Int) (hown : w.ownsRow base 5 1 v n (By xs)) :
    (Builtin.append_ #[42, 3] 42 #[v, .int .i64 0]).run Try.prog w = .ok v w := by
  obtain ⟨i0, hi, hz0, hz1, hz2⟩ := info5p
  have hw : IntKind.i64.wrap 0 = 0 := by decide
  have has : ∀ w, (asInt (.int .i64 0)).run Try.prog w = .ok 0 w := by intro w; simp [asInt, asIntOf]
  rcases hown.2 with ⟨rfl, rfl⟩ | ⟨g, cap, cur, rfl, hbg, hg, hnc, hcm, hcs, htake⟩
  · simp [Builtin.append_, run_underlying Try.underlying42, run_underlying Try.underlying3, sizeOf, typeInfo, hi, has, hw]
  · simp [Builtin.append_, run_underlying Try.underlying42, run_underlying Try.underlying3, sizeOf, typeInfo, hi, has, hw, hnc, storeCells]
set_option maxRecDepth 100000 in
theorem append_zeros_any (w : World) (base : Nat) (v : Value) (n m : Nat) (xs : List Int) (hown : w.ownsRow base 5 1 v n (By xs)) (hbase : base ≤ w.heap.size) (hbig : n + m ≤ 16777216) :
    ∃ v' w', (Builtin.append_ #[42, 3] 42 #[v, .int .i64 m]).run Try.prog w = .ok v' w' ∧ w'.ownsRow base 5 1 v' (n + m) (By (xs ++ List.replicate m 0)) ∧ Below base w w' := by
  rcases Nat.eq_zero_or_pos m with rfl | hm
  · exact ⟨v, w, append_zeros_none w base v n xs hown, by simpa using hown, Below.refl _ _⟩
  · rcases Nat.eq_zero_or_pos n with rfl | hn
    · obtain rfl : xs = [] := List.eq_nil_of_length_eq_zero (by have := hown.1; rw [By_length] at this; omega)
      rcases hown.2 with ⟨rfl, _⟩ | ⟨g, cap, cur, rfl, hbg, hg, hnc, hcm, hcs, htake⟩
      · obtain ⟨v', w', h1, h2, h3⟩ := append_zeros_nil w m hm (by omega)
        exact ⟨v', w', h1, by simpa using owns_base h2 hbase, (Below.refl _ w).grown h3 hbase (by simp)⟩
      · obtain ⟨v', w', h1, h2, h3⟩ := append_zeros_run w base _ 0 m [] hown hbase (by simp) hm hbig
        exact ⟨v', w', h1, h2, (Below.refl _ w).grown h3 hbase (fun k hk => (hown.lt k hk).1)⟩
    · obtain ⟨v', w', h1, h2, h3⟩ := append_zeros_run w base v n m xs hown hbase (by rintro rfl; rcases hown.2 with h2 | ⟨_, _, _, h2, _⟩; omega; cases h2) hm hbig
      exact ⟨v', w', h1, h2, (Below.refl _ w).grown h3 hbase (fun k hk => (hown.lt k hk).1)⟩
/-- A row of bytes that one may append to: an owned one, or one that has no room. -/
def Src (w : World) (B : Nat) (v : Value) (n : Nat) (xs : List Int) : Prop := w.ownsRow B 5 1 v n (By xs) ∨ ∃ a, v = .slice (some a) n n ∧ BAt w (some a) n xs
set_option maxRecDepth 100000 in
theorem append1_own (W : World) (B : Nat) (v : Value) (n : Nat) (xs : List Int) (y : Int) (hown : W.ownsRow B 5 1 v n (By xs)) (hB : B ≤ W.heap.size) (hn : n ≤ 16777216) :
    ∃ v' W', (Builtin.append_ #[42, 42] 42 #[v, .slice (some ⟨W.heap.size, 0, none⟩) 1 1]).run Try.prog (W.alloc (.cells #[.int .u8 y] 5)) = .ok v' W' ∧ W'.ownsRow B 5 1 v' (n + 1) (By (xs ++ [y])) ∧ Below B W W' := by
  obtain ⟨i0, hi, hz0, hz1, hz2⟩ := info5p
  have hnew := blk_new W (.cells #[.int .u8 y] 5)
  obtain ⟨v3, W3, hr, hown3, hg3, _⟩ := run_append_own (P := Try.prog) (W.alloc (.cells #[.int .u8 y] 5)) B 42 42 5 i0 (.int .u8 0) 1 1 Try.underlying42 hi hz0 hz1 hz2 rfl (by decide) v n (By xs) (hown.alloc _) ⟨W.heap.size, 0, none⟩ 1 1 [.int .u8 y] rfl (fun j u hj => by
    match j, hj with
    | 0, hj =>
      cases hj
      rw [add_at, blk_cell hnew]; rfl) (by simp [Value.oneCell']) (by unfold maxLen; omega) (by omega) (by simp; omega)
  have e : By xs ++ [.int .u8 y] = By (xs ++ [y]) := by simp [By]
  rw [e] at hown3
  refine ⟨v3, W3, hr, hown3, ?_⟩
  refine ((Below.refl _ W).alloc hB _).grown hg3 (by simp; omega) (fun k hk => ?_)
  exact (hown.lt k hk).1
set_option maxRecDepth 100000 in
theorem append1_full (W : World) (a : Addr) (n : Nat) (xs : List Int) (y : Int) (hb : BAt W (some a) n xs) (hn : n ≤ 16777216) :
    ∃ v' W', (Builtin.append_ #[42, 42] 42 #[.slice (some a) n n, .slice (some ⟨W.heap.size, 0, none⟩) 1 1]).run Try.prog (W.alloc (.cells #[.int .u8 y] 5)) = .ok v' W' ∧ W'.ownsRow W.heap.size 5 1 v' (n + 1) (By (xs ++ [y])) ∧ Below W.heap.size W W' := by
  obtain ⟨i0, hi, hz0, hz1, hz2⟩ := info5p
  have hnew := blk_new W (.cells #[.int .u8 y] 5)
  have hb2 : BAt (W.alloc (.cells #[.int .u8 y] 5)) (some a) n xs := hb.only (Only.of_new (fun _ => False) ((Below.refl _ W).alloc (Nat.le_refl _) _)) (fun _ _ _ h => h)
  obtain ⟨v3, W3, hr, hown3, hg3⟩ := run_append_arg_grows (P := Try.prog) (W.alloc (.cells #[.int .u8 y] 5)) 42 42 5 i0 (.int .u8 0) 1 1 Try.underlying42 hi hz0 hz1 hz2 rfl (by decide) a n n (By xs) (by rw [By_length, hb.1, Nat.mul_one]) (fun j u hj => by
      have hjl := (List.getElem?_eq_some_iff.1 hj).1
      rw [By_length] at hjl
      rw [By_get xs j hjl] at hj
      obtain ⟨a', e, hc⟩ := hb2.at j (by rw [← hb.1]; exact hjl)
      cases e
      rw [hc]
      exact hj) ⟨W.heap.size, 0, none⟩ 1 1 [.int .u8 y] rfl (fun j u hj => by
    match j, hj with
    | 0, hj =>
      cases hj
      rw [add_at, blk_cell hnew]; rfl) (by omega) (by unfold maxLen; omega) (by omega)
  have e : By xs ++ [.int .u8 y] = By (xs ++ [y]) := by simp [By]
  rw [e] at hown3
  exact ⟨v3, W3, hr, owns_base hown3 (by simp), ((Below.refl _ W).alloc (Nat.le_refl _) _).grown hg3 (by simp) (by simp)⟩
set_option maxRecDepth 100000 in
/-- append(b, y). -/
theorem append1_run (W : World) (B : Nat) (v : Value) (n : Nat) (xs : List Int) (y : Int) (hsrc : Src W B v n xs) (hB : B ≤ W.heap.size) (hn : n ≤ 16777216) :
    ∃ v' W', (Builtin.append_ #[42, 42] 42 #[v, .slice (some ⟨W.heap.size, 0, none⟩) 1 1]).run Try.prog (W.alloc (.cells #[.int .u8 y] 5)) = .ok v' W' ∧ W'.ownsRow B 5 1 v' (n + 1) (By (xs ++ [y])) ∧ Below B W W' := by
  rcases hsrc with h | ⟨a, rfl, h⟩
  · exact append1_own W B v n xs y h hB hn
  · obtain ⟨v', W', h1, h2, h3⟩ := append1_full W a n xs y h hn
    exact ⟨v', W', h1, owns_base h2 hB, h3.mono hB⟩
end Go.Proofs.Ytbahbhaoimabdaa
