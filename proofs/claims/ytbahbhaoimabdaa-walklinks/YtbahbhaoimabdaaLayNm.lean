/-
  Numbers as bytes: width and get of the program; num, put, fits and fill of the reference.
-/
import Derived.Test.YtbahbhaoimabdaaMem
namespace Go.Proofs.Ytbahbhaoimabdaa
open Go Go.Proofs Go.RowKit Go.Shelf
theorem take_snoc (xs : List Int) (k : Nat) (h : k < xs.length) : xs.take (k + 1) = xs.take k ++ [xs.getD k 0] := by
  rw [List.take_succ_eq_append_getElem h]
  simp [List.getD, List.getElem?_eq_getElem h]
/-- A number in so many bytes, the lowest first. -/
def leL (n : Int) (k : Nat) : List Int := (List.range k).map (fun i => n / 256 ^ i % 256)
theorem leL_length (n : Int) (k : Nat) : (leL n k).length = k := by simp [leL]
theorem leL_succ (n : Int) (k : Nat) : leL n (k + 1) = leL n k ++ [n / 256 ^ k % 256] := by simp [leL, List.range_succ]
theorem leL_bound (n : Int) (k : Nat) : ∀ x ∈ leL n k, 0 ≤ x ∧ x ≤ 255 := by
  intro x hx
  obtain ⟨i, _, rfl⟩ := List.mem_map.1 hx
  omega
theorem splice_length {α : Type} (cur : List α) (o : Nat) (ys : List α) (h : o + ys.length ≤ cur.length) : (splice cur o ys).length = cur.length := by
  simp [splice]; omega
set_option maxRecDepth 100000 in
theorem splice_snoc (cur : List Int) (o : Nat) (ys : List Int) (y : Int) (h : o + ys.length < cur.length) : (splice cur o ys).set (o + ys.length) y = splice cur o (ys ++ [y]) := by
  unfold splice
  have h1 : (List.take o cur).length = o := by simp; omega
  rw [List.set_append_right _ _ (by simp; omega), h1, Nat.add_sub_cancel_left, List.set_append_right _ _ (by omega), Nat.sub_self, List.drop_eq_getElem_cons h]
  simp [Nat.add_assoc]
theorem By_setArr (xs : List Int) (i : Nat) (y : Int) : (By xs).toArray.setIfInBounds i (.int .u8 y) = (By (xs.set i y)).toArray := by
  simp [By]
/-- The number of bytes, the lowest first. -/
def numL : List Int → Int
  | [] => 0
  | x :: r => x + 256 * numL r
set_option maxRecDepth 100000 in
theorem numL_snoc (xs : List Int) (x : Int) : numL (xs ++ [x]) = numL xs + 256 ^ xs.length * x := by
  induction xs with
  | nil => simp [numL]
  | cons y r ih =>
    simp only [List.cons_append, numL, ih, List.length_cons, Int.pow_succ]
    rw [Int.mul_add, Int.mul_comm (256 ^ r.length) 256, Int.mul_assoc, Int.add_assoc]
set_option maxRecDepth 100000 in
theorem numL_bound (xs : List Int) (h : ∀ x ∈ xs, 0 ≤ x ∧ x ≤ 255) : 0 ≤ numL xs ∧ numL xs < 256 ^ xs.length := by
  induction xs with
  | nil => simp [numL]
  | cons x r ih =>
    have h1 := h x (by simp)
    have h2 := ih (fun y hy => h y (by simp [hy]))
    simp only [numL, List.length_cons, Int.pow_succ]
    omega
theorem numL_drop (ys : List Int) (j : Nat) (h : j < ys.length) : numL (ys.drop j) = ys.getD j 0 + 256 * numL (ys.drop (j + 1)) := by
  rw [List.drop_eq_getElem_cons h]
  simp [numL, List.getD, List.getElem?_eq_getElem h]
theorem pow_small (k : Nat) (h : k ≤ 3) : (256 : Int) ^ k ≤ 16777216 := by
  match k, h with
  | 0, _ => decide
  | 1, _ => decide
  | 2, _ => decide
  | 3, _ => decide
set_option maxRecDepth 100000 in
theorem join32 (y x : Int) (k : Nat) (hk : k < 4) (hy : 0 ≤ y ∧ y < 256 ^ k) (hx : 0 ≤ x ∧ x ≤ 255) : bits BinOp.or IntKind.u32 y (x * 2 ^ (8 * k) % 4294967296) = y + 256 ^ k * x := by
  have e : (2 : Int) ^ (8 * k) = 256 ^ k := by rw [Int.pow_mul]; rfl
  have hp := pow_small k (by omega)
  have hp0 : (0 : Int) ≤ 256 ^ k := Int.pow_nonneg (by decide)
  have hm : 0 ≤ x * 256 ^ k ∧ x * 256 ^ k ≤ 255 * 16777216 := mul_fits hx.1 hx.2 hp0 hp
  rw [e, Int.emod_eq_of_lt hm.1 (by omega)]
  obtain ⟨X, rfl⟩ := Int.eq_ofNat_of_zero_le hx.1
  obtain ⟨Y, rfl⟩ := Int.eq_ofNat_of_zero_le hy.1
  have e2 : (X : Int) * 256 ^ k = ((X * 2 ^ (8 * k) : Nat) : Int) := by rw [← e]; simp
  have hY : Y < 2 ^ (8 * k) := by
    have := hy.2
    rw [← e] at this
    exact_mod_cast this
  have hYb : (Y : Int) < 4294967296 := by omega
  have hZb : ((X * 2 ^ (8 * k) : Nat) : Int) < 4294967296 := by rw [← e2]; omega
  rw [Int.mul_comm (256 ^ k), e2, u32_or_nat _ _ (by omega) (by omega), Nat.or_comm, nat_join (8 * k) _ _ (Nat.mul_mod_left _ _) hY]
  omega
set_option maxRecDepth 100000 in
theorem join64 (y x : Int) (hy : 0 ≤ y) (hy2 : y < 16777216) (hx : 0 ≤ x ∧ x ≤ 255) : bits BinOp.or IntKind.i64 (y * 256) x = x + 256 * y := by
  obtain ⟨X, rfl⟩ := Int.eq_ofNat_of_zero_le hx.1
  obtain ⟨Y, rfl⟩ := Int.eq_ofNat_of_zero_le hy
  rw [show (Y : Int) * 256 = ((Y * 256 : Nat) : Int) by simp]
  show IntKind.i64.wrap ((BitVec.ofInt 64 ((Y * 256 : Nat) : Int) ||| BitVec.ofInt 64 (X : Int)).toNat : Int) = _
  rw [BitVec.toNat_or, ofInt_u64 _ (by omega), ofInt_u64 X (by omega), nat_join 8 _ _ (by omega) (by omega), IntKind.wrap_i64]
  omega
set_option maxRecDepth 100000 in
/-- x & 255. -/
theorem low64 (x : Int) (h0 : 0 ≤ x) (h1 : x < 4294967296) : bits BinOp.and IntKind.i64 x 255 = x % 256 := by
  obtain ⟨X, rfl⟩ := Int.eq_ofNat_of_zero_le h0
  show IntKind.i64.wrap ((BitVec.ofInt 64 (X : Int) &&& BitVec.ofInt 64 ((255 : Nat) : Int)).toNat : Int) = _
  rw [BitVec.toNat_and, ofInt_u64 X (by omega), ofInt_u64 255 (by omega), nat_mask8, IntKind.wrap_i64]
  omega
theorem pow_tiny (k : Nat) (h : k ≤ 1) : (256 : Int) ^ k ≤ 256 := by
  match k, h with
  | 0, _ => decide
  | 1, _ => decide
set_option maxRecDepth 100000 in
theorem join16 (y x : Int) (k : Nat) (hk : k < 2) (hy : 0 ≤ y ∧ y < 256 ^ k) (hx : 0 ≤ x ∧ x ≤ 255) : bits BinOp.or IntKind.u16 y (x * 2 ^ (8 * k) % 65536) = y + 256 ^ k * x := by
  have e : (2 : Int) ^ (8 * k) = 256 ^ k := by rw [Int.pow_mul]; rfl
  have hp := pow_tiny k (by omega)
  have hp0 : (0 : Int) ≤ 256 ^ k := Int.pow_nonneg (by decide)
  have hm : 0 ≤ x * 256 ^ k ∧ x * 256 ^ k ≤ 255 * 256 := mul_fits hx.1 hx.2 hp0 hp
  rw [e, Int.emod_eq_of_lt hm.1 (by omega)]
  obtain ⟨X, rfl⟩ := Int.eq_ofNat_of_zero_le hx.1
  obtain ⟨Y, rfl⟩ := Int.eq_ofNat_of_zero_le hy.1
  have e2 : (X : Int) * 256 ^ k = ((X * 2 ^ (8 * k) : Nat) : Int) := by rw [← e]; simp
  have hY : Y < 2 ^ (8 * k) := by
    have := hy.2
    rw [← e] at this
    exact_mod_cast this
  have hYb : (Y : Int) < 65536 := by omega
  have hZb : ((X * 2 ^ (8 * k) : Nat) : Int) < 65536 := by rw [← e2]; omega
  rw [Int.mul_comm (256 ^ k), e2, u16_or_nat _ _ (by omega) (by omega), Nat.or_comm, nat_join (8 * k) _ _ (Nat.mul_mod_left _ _) hY]
  omega
/-- Is a number from 0 to m? -/
def fitB (m x : Int) : Bool := decide (0 ≤ x ∧ x ≤ m)
theorem fitB_iff {m x : Int} : fitB m x = true ↔ 0 ≤ x ∧ x ≤ m := by simp [fitB]
theorem fitB_no {m x : Int} : fitB m x = false ↔ x < 0 ∨ m < x := by simp [fitB]; omega
end Go.Proofs.Ytbahbhaoimabdaa
namespace Go.Proofs.Ytbahbhaoimabdaa
open Go Go.Proofs Go.RowKit Go.Shelf
set_option maxRecDepth 100000 in
/-- append(b, make([]byte, m)...). -/
theorem append_zeros_run (w : World) (base : Nat) (v : Value) (n m : Nat) (xs : List Int) (hown : w.ownsRow base 5 1 v n (By xs)) (hbase : base ≤ w.heap.size) (hv : v ≠ .slice none 0 0) (hm : 0 < m) (hbig : n + m ≤ 16777216) :
    ∃ v' w', (Builtin.append_ #[42, 3] 42 #[v, .int .i64 m]).run Try.prog w = .ok v' w' ∧ w'.ownsRow base 5 1 v' (n + m) (By (xs ++ List.replicate m 0)) ∧ w.grownBy w' v.ownBlock := by
  obtain ⟨i0, hi, hz0, hz1, hz2⟩ := info5p
  have hlx : xs.length = n := by have := hown.1; rw [By_length] at this; omega
  have hzc : ∀ k, Builtin.zeroCells (Value.int .u8 0).cells k = (By (List.replicate k 0)).toArray := by
    intro k
    apply Array.ext'
    rw [show (By (List.replicate k 0)).toArray.toList = List.replicate k (Value.int .u8 0) by simp [By], List.eq_replicate_iff]
    simp [Builtin.zeroCells, Value.cells, Nat.mod_one]
  have hw : IntKind.i64.wrap (m : Int) = m := by rw [IntKind.wrap_i64]; omega
  have hneg : ¬ ((m : Int) < 0) := by omega
  have h48 : ¬ (281474976710656 < (m : Int)) := by omega
  have hlen : (By (xs ++ List.replicate m 0)).length = n + m := by rw [By_length]; simp [hlx]
  have hbyapp : By (xs ++ List.replicate m 0) = By xs ++ By (List.replicate m 0) := by simp [By]
  have has : ∀ w, (asInt (.int .i64 (m : Int))).run Try.prog w = .ok (m : Int) w := by intro w; simp [asInt, asIntOf]
  have h0 : m ≠ 0 := by omega
  rcases hown.2 with ⟨rfl, rfl⟩ | ⟨g, cap, cur, rfl, hbg, hg, hnc, hcm, hcs, htake⟩
  · exact absurd rfl hv
  · by_cases hroom : n + m ≤ cap
    · have hst := run_storeCells_at Try.prog g n 5 (By (List.replicate m 0)) 0 cur w hg (by rw [By_length]; simp; omega) (By_one _)
      simp only [Nat.add_zero] at hst
      refine ⟨.slice (some ⟨g, 0, none⟩) (n + m) cap, w.setRow g (cur.toList.take n ++ By (List.replicate m 0) ++ cur.toList.drop (n + (By (List.replicate m 0)).length)).toArray, ?_, ?_, ?_⟩
      · simp [Builtin.append_, run_underlying Try.underlying42, run_underlying Try.underlying3, sizeOf, typeInfo, hi, hz1, hz2, zeroValue, hz0, has, hw, hneg, h48, hroom, hzc, Addr.add_lit, hst, h0]
      · refine ⟨by rw [hlen]; omega, .inr ⟨g, cap, _, rfl, hbg, setRow_heap w g cur _ 5 _ hg, hroom, hcm, ?_, ?_⟩⟩
        · simp only [List.size_toArray, List.length_append, List.length_take, List.length_drop, Array.length_toList, By_length, List.length_replicate]
          omega
        · rw [Nat.mul_one] at htake
          rw [htake, ← hbyapp, show (n + m) * 1 = (By (xs ++ List.replicate m 0)).length by rw [hlen]; omega]
          exact List.take_left
      · exact ⟨rfl, rfl, rfl, by simp, fun k _ hk => setRow_other w g k _ (fun e => hk (by simp [Value.ownBlock, e]))⟩
    · refine ⟨.slice (some ⟨w.heap.size, 0, none⟩) (n + m) (grownCap w (n + m) cap 5), w.drew.alloc (.cells (By xs ++ By (List.replicate m 0) ++ By (List.replicate (grownCap w (n + m) cap 5 - (n + m)) 0)).toArray 5), ?_, ?_, ?_⟩
      · have holds : ∀ j u, (By xs)[j]? = some u → w.cell? ((⟨g, 0, none⟩ : Addr).add j) = some u := hown.cells (g := g) rfl
        have hfo := run_firstCells_some (P := Try.prog) w.drew 1 n ⟨g, 0, none⟩ n cap (By xs) (by rw [By_length, hlx]; omega) (by simpa using holds)
        have h63' : ¬ (9223372036854775807 < ((n : Int) + (m : Int))) := by omega
        have hfit := growslice_fits (need := n + m) (old := cap) (bytes := 1) (by omega) (by omega)
        have h48' : ¬ (281474976710656 < Builtin.nextslicecap (n + m) cap) := by omega
        simp [Builtin.append_, run_underlying Try.underlying42, run_underlying Try.underlying3, sizeOf, typeInfo, hi, hz1, hz2, zeroValue, hz0, has, hw, hneg, h48, hroom, hzc, h63', h48', Question.forced, hfo, newRow, grownCap, h0]
      · have hge := grownCap_ge w (n + m) cap 5
        have hcm2 : grownCap w (n + m) cap 5 ≤ maxLen := grownCap_le_maxLen w (n + m) cap 5 (by unfold maxLen; omega)
        refine ⟨by rw [hlen]; omega, .inr ⟨w.heap.size, _, _, rfl, hbase, heap_alloc_new w.drew _, hge, hcm2, ?_, ?_⟩⟩
        · simp only [List.size_toArray, List.length_append, By_length, List.length_replicate]
          omega
        · rw [← hbyapp, show (n + m) * 1 = (By (xs ++ List.replicate m 0)).length by rw [hlen]; omega]
          exact List.take_left
      · exact ⟨rfl, rfl, rfl, by simp, fun k hk _ => Below.heap_alloc w.drew _ k hk⟩
set_option maxRecDepth 100000 in
theorem zero_cells (k : Nat) : Builtin.zeroCells (Value.int .u8 0).cells k = (By (List.replicate k 0)).toArray := by
  apply Array.ext'
  rw [show (By (List.replicate k 0)).toArray.toList = List.replicate k (Value.int .u8 0) by simp [By], List.eq_replicate_iff]
  simp [Builtin.zeroCells, Value.cells, Nat.mod_one]
set_option maxRecDepth 100000 in
/-- append(nil, make([]byte, m)...). -/
theorem append_zeros_nil (w : World) (m : Nat) (hm : 0 < m) (hbig : m ≤ 16777216) :
    ∃ v' w', (Builtin.append_ #[42, 3] 42 #[.slice none 0 0, .int .i64 m]).run Try.prog w = .ok v' w' ∧ w'.ownsRow w.heap.size 5 1 v' m (By (List.replicate m 0)) ∧ w.grownBy w' none := by
  obtain ⟨i0, hi, hz0, hz1, hz2⟩ := info5p
  have hzc := zero_cells
  have hw : IntKind.i64.wrap (m : Int) = m := by rw [IntKind.wrap_i64]; omega
  have hneg : ¬ ((m : Int) < 0) := by omega
  have h48 : ¬ (281474976710656 < (m : Int)) := by omega
  have has : ∀ w, (asInt (.int .i64 (m : Int))).run Try.prog w = .ok (m : Int) w := by intro w; simp [asInt, asIntOf]
  have h0 : m ≠ 0 := by omega
  have hroom : ¬ (m ≤ 0) := by omega
  refine ⟨.slice (some ⟨w.heap.size, 0, none⟩) m (grownCap w m 0 5), w.drew.alloc (.cells (By (List.replicate m 0) ++ By (List.replicate (grownCap w m 0 5 - m) 0)).toArray 5), ?_, ?_, ?_⟩
  · have h63' : ¬ (9223372036854775807 < (m : Int)) := by omega
    have hfit := growslice_fits (need := m) (old := 0) (bytes := 1) (by omega) (by omega)
    have h48' : ¬ (281474976710656 < Builtin.nextslicecap m 0) := by omega
    simp [Builtin.append_, run_underlying Try.underlying42, run_underlying Try.underlying3, sizeOf, typeInfo, hi, hz1, hz2, zeroValue, hz0, has, hw, hneg, h48, hzc, h63', h48', Question.forced, newRow, grownCap, h0, Builtin.firstCells]
  · have hge := grownCap_ge w m 0 5
    have hcm2 : grownCap w m 0 5 ≤ maxLen := grownCap_le_maxLen w m 0 5 (by unfold maxLen; omega)
    refine ⟨by rw [By_length]; simp, .inr ⟨w.heap.size, _, _, rfl, Nat.le_refl _, heap_alloc_new w.drew _, hge, hcm2, ?_, ?_⟩⟩
    · simp only [List.size_toArray, List.length_append, By_length, List.length_replicate]
      omega
    · rw [show m * 1 = (By (List.replicate m 0)).length by rw [By_length]; simp]
      exact List.take_left
  · exact ⟨rfl, rfl, rfl, by simp, fun k hk _ => Below.heap_alloc w.drew _ k hk⟩
set_option maxRecDepth 100000 in
theorem append_zeros_none (w : World) (base : Nat) (v : Value) (n : Nat) (xs : List Int) (hown : w.ownsRow base 5 1 v n (By xs)) :
    (Builtin.append_ #[42, 3] 42 #[v, .int .i64 0]).run Try.prog w = .ok v w := by
  obtain ⟨i0, hi, hz0, hz1, hz2⟩ := info5p
  have hw : IntKind.i64.wrap 0 = 0 := by decide
  have has : ∀ w, (asInt (.int .i64 0)).run Try.prog w = .ok 0 w := by intro w; simp [asInt, asIntOf]
  rcases hown.2 with ⟨rfl, rfl⟩ | ⟨g, cap, cur, rfl, hbg, hg, hnc, hcm, hcs, htake⟩
  · simp [Builtin.append_, run_underlying Try.underlying42, run_underlying Try.underlying3, sizeOf, typeInfo, hi, has, hw]
  · simp [Builtin.append_, run_underlying Try.underlying42, run_underlying Try.underlying3, sizeOf, typeInfo, hi, has, hw, hnc, storeCells]
set_option maxRecDepth 100000 in
theorem append_zeros_any (w : World) (base : Nat) (v : Value) (n m : Nat) (xs : List Int) (hown : w.ownsRow base 5 1 v n (By xs)) (hbase : base ≤ w.heap.size) (hbig : n + m ≤ 16777216) :
    ∃ v' w', (Builtin.append_ #[42, 3] 42 #[v, .int .i64 m]).run Try.prog w = .ok v' w' ∧ w'.ownsRow base 5 1 v' (n + m) (By (xs ++ List.replicate m 0)) ∧ Below base w w' := by
  rcases Nat.eq_zero_or_pos m with rfl | hm
  · exact ⟨v, w, append_zeros_none w base v n xs hown, by simpa using hown, Below.refl _ _⟩
  · rcases Nat.eq_zero_or_pos n with rfl | hn
    · obtain rfl : xs = [] := List.eq_nil_of_length_eq_zero (by have := hown.1; rw [By_length] at this; omega)
      rcases hown.2 with ⟨rfl, _⟩ | ⟨g, cap, cur, rfl, hbg, hg, hnc, hcm, hcs, htake⟩
      · obtain ⟨v', w', h1, h2, h3⟩ := append_zeros_nil w m hm (by omega)
        exact ⟨v', w', h1, by simpa using owns_base h2 hbase, (Below.refl _ w).grown h3 hbase (by simp)⟩
      · obtain ⟨v', w', h1, h2, h3⟩ := append_zeros_run w base _ 0 m [] hown hbase (by simp) hm hbig
        exact ⟨v', w', h1, h2, (Below.refl _ w).grown h3 hbase (fun k hk => (hown.lt k hk).1)⟩
    · obtain ⟨v', w', h1, h2, h3⟩ := append_zeros_run w base v n m xs hown hbase (by rintro rfl; rcases hown.2 with h2 | ⟨_, _, _, h2, _⟩; omega; cases h2) hm hbig
      exact ⟨v', w', h1, h2, (Below.refl _ w).grown h3 hbase (fun k hk => (hown.lt k hk).1)⟩
/-- A row of bytes that one may append to: an owned one, or one that has no room. -/
def Src (w : World) (B : Nat) (v : Value) (n : Nat) (xs : List Int) : Prop := w.ownsRow B 5 1 v n (By xs) ∨ ∃ a, v = .slice (some a) n n ∧ BAt w (some a) n xs
set_option maxRecDepth 100000 in
theorem append1_own (W : World) (B : Nat) (v : Value) (n : Nat) (xs : List Int) (y : Int) (hown : W.ownsRow B 5 1 v n (By xs)) (hB : B ≤ W.heap.size) (hn : n ≤ 16777216) :
    ∃ v' W', (Builtin.append_ #[42, 42] 42 #[v, .slice (some ⟨W.heap.size, 0, none⟩) 1 1]).run Try.prog (W.alloc (.cells #[.int .u8 y] 5)) = .ok v' W' ∧ W'.ownsRow B 5 1 v' (n + 1) (By (xs ++ [y])) ∧ Below B W W' := by
  obtain ⟨i0, hi, hz0, hz1, hz2⟩ := info5p
  have hnew := blk_new W (.cells #[.int .u8 y] 5)
  obtain ⟨v3, W3, hr, hown3, hg3, _⟩ := run_append_own (P := Try.prog) (W.alloc (.cells #[.int .u8 y] 5)) B 42 42 5 i0 (.int .u8 0) 1 1 Try.underlying42 hi hz0 hz1 hz2 rfl (by decide) v n (By xs) (hown.alloc _) ⟨W.heap.size, 0, none⟩ 1 1 [.int .u8 y] rfl (fun j u hj => by
    match j, hj with
    | 0, hj =>
      cases hj
      rw [add_at, blk_cell hnew]; rfl) (by simp [Value.oneCell']) (by unfold maxLen; omega) (by omega) (by simp; omega)
  have e : By xs ++ [.int .u8 y] = By (xs ++ [y]) := by simp [By]
  rw [e] at hown3
  refine ⟨v3, W3, hr, hown3, ?_⟩
  refine ((Below.refl _ W).alloc hB _).grown hg3 (by simp; omega) (fun k hk => ?_)
  exact (hown.lt k hk).1
set_option maxRecDepth 100000 in
theorem append1_full (W : World) (a : Addr) (n : Nat) (xs : List Int) (y : Int) (hb : BAt W (some a) n xs) (hn : n ≤ 16777216) :
    ∃ v' W', (Builtin.append_ #[42, 42] 42 #[.slice (some a) n n, .slice (some ⟨W.heap.size, 0, none⟩) 1 1]).run Try.prog (W.alloc (.cells #[.int .u8 y] 5)) = .ok v' W' ∧ W'.ownsRow W.heap.size 5 1 v' (n + 1) (By (xs ++ [y])) ∧ Below W.heap.size W W' := by
  obtain ⟨i0, hi, hz0, hz1, hz2⟩ := info5p
  have hnew := blk_new W (.cells #[.int .u8 y] 5)
  have hb2 : BAt (W.alloc (.cells #[.int .u8 y] 5)) (some a) n xs := hb.only (Only.of_new (fun _ => False) ((Below.refl _ W).alloc (Nat.le_refl _) _)) (fun _ _ _ h => h)
  obtain ⟨v3, W3, hr, hown3, hg3⟩ := run_append_arg_grows (P := Try.prog) (W.alloc (.cells #[.int .u8 y] 5)) 42 42 5 i0 (.int .u8 0) 1 1 Try.underlying42 hi hz0 hz1 hz2 rfl (by decide) a n n (By xs) (by rw [By_length, hb.1, Nat.mul_one]) (fun j u hj => by
      have hjl := (List.getElem?_eq_some_iff.1 hj).1
      rw [By_length] at hjl
      rw [By_get xs j hjl] at hj
      obtain ⟨a', e, hc⟩ := hb2.at j (by rw [← hb.1]; exact hjl)
      cases e
      rw [hc]
      exact hj) ⟨W.heap.size, 0, none⟩ 1 1 [.int .u8 y] rfl (fun j u hj => by
    match j, hj with
    | 0, hj =>
      cases hj
      rw [add_at, blk_cell hnew]; rfl) (by omega) (by unfold maxLen; omega) (by omega)
  have e : By xs ++ [.int .u8 y] = By (xs ++ [y]) := by simp [By]
  rw [e] at hown3
  exact ⟨v3, W3, hr, owns_base hown3 (by simp), ((Below.refl _ W).alloc (Nat.le_refl _) _).grown hg3 (by simp) (by simp)⟩
set_option maxRecDepth 100000 in
/-- append(b, y). -/
theorem append1_run (W : World) (B : Nat) (v : Value) (n : Nat) (xs : List Int) (y : Int) (hsrc : Src W B v n xs) (hB : B ≤ W.heap.size) (hn : n ≤ 16777216) :
    ∃ v' W', (Builtin.append_ #[42, 42] 42 #[v, .slice (some ⟨W.heap.size, 0, none⟩) 1 1]).run Try.prog (W.alloc (.cells #[.int .u8 y] 5)) = .ok v' W' ∧ W'.ownsRow B 5 1 v' (n + 1) (By (xs ++ [y])) ∧ Below B W W' := by
  rcases hsrc with h | ⟨a, rfl, h⟩
  · exact append1_own W B v n xs y h hB hn
  · obtain ⟨v', W', h1, h2, h3⟩ := append1_full W a n xs y h hn
    exact ⟨v', W', h1, owns_base h2 hB, h3.mono hB⟩
end Go.Proofs.Ytbahbhaoimabdaa
namespace Go.Proofs.Ytbahbhaoimabdaa
open Go Go.Proofs Go.RowKit Go.Shelf
/-- Ints as cells. -/
def Iy (xs : List Int) : List Value := xs.map (Value.int .i64)
theorem Iy_length (xs : List Int) : (Iy xs).length = xs.length := by simp [Iy]
theorem Iy_get (xs : List Int) (i : Nat) (h : i < xs.length) : (Iy xs)[i]? = some (.int .i64 (xs.getD i 0)) := by simp [Iy, List.getD, List.getElem?_eq_getElem h]
theorem Iy_one (xs : List Int) : ∀ u ∈ Iy xs, u.oneCell' = true := by
  intro u hu
  obtain ⟨x, _, rfl⟩ := List.mem_map.1 hu
  rfl
theorem Iy_setArr (xs : List Int) (i : Nat) (y : Int) : (Iy xs).toArray.setIfInBounds i (.int .i64 y) = (Iy (xs.set i y)).toArray := by
  simp [Iy]
/-- A slice of ints as it lies in a world. -/
def LAt (W : World) (ao : Option Addr) (n : Nat) (xs : List Int) : Prop :=
  xs.length = n ∧ (0 < n → ∃ a, ao = some a ∧ a.block < W.heap.size ∧ ∀ i, i < n → W.cell? (a.add i) = some (.int .i64 (xs.getD i 0)))
set_option maxRecDepth 100000 in
theorem LAt.only {S : Nat → Prop} {W W' : World} {ao : Option Addr} {n : Nat} {xs : List Int} (h : LAt W ao n xs) (ho : Only S W W') (hS : ∀ a, ao = some a → a.block < W.heap.size → ¬ S a.block) : LAt W' ao n xs := by
  refine ⟨h.1, fun hn => ?_⟩
  obtain ⟨a, e, hlt, hc⟩ := h.2 hn
  refine ⟨a, e, Nat.lt_of_lt_of_le hlt ho.size, fun i hi => ?_⟩
  rw [World.cell?_of_block (w := W) (by rw [add_block]; exact ho.block _ hlt (hS a e hlt))]
  exact hc i hi
theorem LAt.at {W : World} {ao : Option Addr} {n : Nat} {xs : List Int} (h : LAt W ao n xs) (i : Nat) (hi : i < n) : ∃ a, ao = some a ∧ W.cell? (a.add i) = some (.int .i64 (xs.getD i 0)) := by
  obtain ⟨a, e, _, hc⟩ := h.2 (by omega)
  exact ⟨a, e, hc i hi⟩
theorem getD_mem {xs : List Int} {i : Nat} (h : i < xs.length) : xs.getD i 0 ∈ xs := by
  simp [List.getD, List.getElem?_eq_getElem h]
/-- Numbers in so many bytes each. -/
def leLs (K : Nat) (xs : List Int) : List Int := xs.flatMap (fun x => leL x K)
theorem leLs_snoc (K : Nat) (xs : List Int) (x : Int) : leLs K (xs ++ [x]) = leLs K xs ++ leL x K := by simp [leLs]
set_option maxRecDepth 100000 in
theorem leLs_length (K : Nat) (xs : List Int) : (leLs K xs).length = K * xs.length := by
  induction xs with
  | nil => simp [leLs]
  | cons x r ih =>
    have e : leLs K (x :: r) = leL x K ++ leLs K r := by simp [leLs]
    rw [e, List.length_append, ih, leL_length, List.length_cons, Nat.mul_succ, Nat.add_comm]
theorem leLs_bound (K : Nat) (xs : List Int) : ∀ x ∈ leLs K xs, 0 ≤ x ∧ x ≤ 255 := by
  intro x hx
  obtain ⟨y, _, h⟩ := List.mem_flatMap.1 hx
  exact leL_bound _ _ x h
/-- Are all of them from 0 to m? -/
def fitL (m : Int) (xs : List Int) : Bool := xs.all (fitB m)
theorem fitL_iff {m : Int} {xs : List Int} : fitL m xs = true ↔ ∀ x ∈ xs, 0 ≤ x ∧ x ≤ m := by
  simp [fitL, fitB]
theorem fitL_no {m : Int} {xs : List Int} {k : Nat} (hk : k < xs.length) (h : fitB m (xs.getD k 0) = false) : fitL m xs = false := by
  cases hh : fitL m xs with
  | false => rfl
  | true =>
    have := fitL_iff.1 hh _ (getD_mem hk)
    rw [fitB_iff.2 this] at h
    cases h
set_option maxRecDepth 100000 in
theorem fitL_all {m : Int} {xs : List Int} (h : ∀ k, k < xs.length → fitB m (xs.getD k 0) = true) : fitL m xs = true := by
  refine fitL_iff.2 (fun x hx => ?_)
  obtain ⟨i, hi, rfl⟩ := List.getElem_of_mem hx
  have := h i hi
  rw [show xs.getD i 0 = xs[i] by simp [List.getD, List.getElem?_eq_getElem hi]] at this
  exact fitB_iff.1 this
end Go.Proofs.Ytbahbhaoimabdaa
namespace Go.Proofs.Ytbahbhaoimabdaa
open Go Go.Proofs Go.RowKit Go.Shelf
theorem info3 : (Try.prog.info? 3).map (fun i => (i.zero, i.size, i.bytes)) = some (some (.int .i64 0), 1, 8) := by kernel_rfl
theorem info3p : ∃ i0, Try.prog.info? 3 = some i0 ∧ i0.zero = some (.int .i64 0) ∧ i0.size = 1 ∧ i0.bytes = 8 := by
  obtain ⟨i0, hi, hz0, hz1, hz2⟩ := info_parts info3
  exact ⟨i0, hi, hz0, hz1, hz2⟩
set_option maxRecDepth 100000 in
/-- make([]int, n). -/
theorem makei_run (w : World) (n : Nat) (hn : n ≤ 16777216) : (Instr.makeSlice 65 (.int .i64 n) (.int .i64 n)).run Try.prog w = .ok (.slice (some ⟨w.heap.size, 0, none⟩) n n) (w.alloc (.cells (Iy (zeros n)).toArray 3)) := by
  obtain ⟨i0, hi, hz0, hz1, hz2⟩ := info3p
  rw [run_makeSlice (P := Try.prog) w 65 3 i0 (.int .i64 0) Try.underlying65 hi hz0 .i64 .i64 n n (by omega) (by omega) (by rw [hz1]; simp; omega) (by rw [hz2]; omega) (by omega)]
  have e : madeCells (Value.int .i64 0).cells ((n : Int).toNat * i0.size) = (Iy (zeros n)).toArray := by
    rw [hz1]
    apply Array.ext'
    rw [show (Iy (zeros n)).toArray.toList = List.replicate n (Value.int .i64 0) by simp [Iy, zeros], List.eq_replicate_iff]
    simp [madeCells, Value.cells, Nat.mod_one]
  rw [e]
  simp
/-- Block g is a row of these ints. -/
def QAt (W : World) (g : Nat) (xs : List Int) : Prop := W.heap[g]? = some (.cells (Iy xs).toArray 3 (0, 0))
theorem QAt.lt {W : World} {g : Nat} {xs : List Int} (h : QAt W g xs) : g < W.heap.size := lt_of_block h
theorem QAt.below {W W' : World} {g B : Nat} {xs : List Int} (h : QAt W g xs) (hb : Below B W W') (hg : g < B) : QAt W' g xs := by
  unfold QAt
  rw [hb.block g hg]
  exact h
theorem QAt.lat {W : World} {g n : Nat} {xs : List Int} (h : QAt W g xs) (hn : xs.length = n) : LAt W (some ⟨g, 0, none⟩) n xs := by
  refine ⟨hn, fun _ => ⟨_, rfl, h.lt, fun i hi => ?_⟩⟩
  rw [add_at, blk_cell h, Nat.zero_add]
  simpa using Iy_get xs i (by omega)
theorem add_off (a : Addr) (o : Nat) : (a.add o).off = a.off + o := by
  unfold Addr.add
  split
  · next h => subst h; rfl
  · rfl
set_option maxRecDepth 100000 in
theorem add_add (a : Addr) (o i : Nat) : (a.add o).add i = a.add (o + i) := by
  by_cases hi : i = 0
  · subst hi; unfold Addr.add; simp
  · have h1 : (a.add o).add i = ⟨(a.add o).block, (a.add o).off + i, none⟩ := by
      conv => lhs; unfold Addr.add
      rw [if_neg hi]
      rfl
    rw [h1, add_block, add_off]
    unfold Addr.add
    rw [if_neg (by omega), Nat.add_assoc]
set_option maxRecDepth 100000 in
theorem BAt.from {W : World} {a : Addr} {n : Nat} {xs : List Int} (h : BAt W (some a) n xs) (o : Nat) (hn : o ≤ n) : BAt W (some (a.add o)) (n - o) (xs.drop o) := by
  refine ⟨by simp [h.1], fun hp => ?_⟩
  obtain ⟨a', e, hlt, hc⟩ := h.2 (by omega)
  cases e
  refine ⟨_, rfl, by rw [add_block]; exact hlt, fun i hi => ?_⟩
  rw [add_add, hc (o + i) (by omega)]
  simp [List.getD]
/-- The numbers of so many bytes each. -/
def allL (K : Nat) (xs : List Int) : List Int := (List.range (xs.length / K)).map (fun i => numL ((xs.drop (K * i)).take K))
theorem allL_length (K : Nat) (xs : List Int) : (allL K xs).length = xs.length / K := by simp [allL]
theorem allL_get (K : Nat) (xs : List Int) (i : Nat) (h : i < xs.length / K) : (allL K xs).getD i 0 = numL ((xs.drop (K * i)).take K) := by
  simp [allL, List.getD, h]
theorem splice_all (N : Nat) (A : List Int) (h : A.length = N) : splice (zeros N) 0 A = A := by
  unfold splice
  rw [Nat.zero_add, List.drop_of_length_le (by rw [zeros_length]; omega)]
  simp
end Go.Proofs.Ytbahbhaoimabdaa
