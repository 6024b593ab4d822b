/-
  Numbers as bytes: get of the program; num, put of the reference; append of zeros.
-/
import Derived.Test.YtebeejmpnkdllaaPut
namespace Go.Proofs.Ytebeejmpnkdllaa
open Go Go.Proofs Go.RowKit Go.Shelf

/-- The number of bytes, the lowest first. -/
def numL : List Int → Int
  | [] => 0
  | x :: r => x + 256 * numL r

theorem numL_snoc (xs : List Int) (x : Int) : numL (xs ++ [x]) = numL xs + 256 ^ xs.length * x := by
  induction xs with
  | nil => simp [numL]
  | cons y r ih =>
    simp only [List.cons_append, numL, ih, List.length_cons, Int.pow_succ]
    rw [Int.mul_add, Int.mul_comm (256 ^ r.length) 256, Int.mul_assoc, Int.add_assoc]
theorem numL_bound (xs : List Int) (h : ∀ x ∈ xs, 0 ≤ x ∧ x ≤ 255) : 0 ≤ numL xs ∧ numL xs < 256 ^ xs.length := by
  induction xs with
  | nil => simp [numL]
  | cons x r ih =>
    have h1 := h x (by simp)
    have h2 := ih (fun y hy => h y (by simp [hy]))
    simp only [numL, List.length_cons, Int.pow_succ]
    omega

theorem numL_drop (ys : List Int) (j : Nat) (h : j < ys.length) : numL (ys.drop j) = ys.getD j 0 + 256 * numL (ys.drop (j + 1)) := by
  rw [List.drop_eq_getElem_cons h]
  simp [numL, List.getD, List.getElem?_eq_getElem h]
theorem pow_small (k : Nat) (h : k ≤ 3) : (256 : Int) ^ k ≤ 16777216 := by
  match k, h with
  | 0, _ => decide
  | 1, _ => decide
  | 2, _ => decide
  | 3, _ => decide
theorem join32 (y x : Int) (k : Nat) (hk : k < 4) (hy : 0 ≤ y ∧ y < 256 ^ k) (hx : 0 ≤ x ∧ x ≤ 255) : bits BinOp.or IntKind.u32 y (x * 2 ^ (8 * k) % 4294967296) = y + 256 ^ k * x := by
  have e : (2 : Int) ^ (8 * k) = 256 ^ k := by rw [Int.pow_mul]; rfl
  have hp := pow_small k (by omega)
  have hp0 : (0 : Int) ≤ 256 ^ k := Int.pow_nonneg (by decide)
  have hm : 0 ≤ x * 256 ^ k ∧ x * 256 ^ k ≤ 255 * 16777216 := mul_fits hx.1 hx.2 hp0 hp
  rw [e, Int.emod_eq_of_lt hm.1 (by omega)]
  obtain ⟨X, rfl⟩ := Int.eq_ofNat_of_zero_le hx.1
  obtain ⟨Y, rfl⟩ := Int.eq_ofNat_of_zero_le hy.1
  have e2 : (X : Int) * 256 ^ k = ((X * 2 ^ (8 * k) : Nat) : Int) := by rw [← e]; simp
  have hY : Y < 2 ^ (8 * k) := by
    have := hy.2
    rw [← e] at this
    exact_mod_cast this
  have hYb : (Y : Int) < 4294967296 := by omega
  have hZb : ((X * 2 ^ (8 * k) : Nat) : Int) < 4294967296 := by rw [← e2]; omega
  rw [Int.mul_comm (256 ^ k), e2, u32_or_nat _ _ (by omega) (by omega), Nat.or_comm, nat_join (8 * k) _ _ (Nat.mul_mod_left _ _) hY]
  omega
theorem join64 (y x : Int) (hy : 0 ≤ y) (hy2 : y < 16777216) (hx : 0 ≤ x ∧ x ≤ 255) : bits BinOp.or IntKind.i64 (y * 256) x = x + 256 * y := by
  obtain ⟨X, rfl⟩ := Int.eq_ofNat_of_zero_le hx.1
  obtain ⟨Y, rfl⟩ := Int.eq_ofNat_of_zero_le hy
  rw [show (Y : Int) * 256 = ((Y * 256 : Nat) : Int) by simp]
  show IntKind.i64.wrap ((BitVec.ofInt 64 ((Y * 256 : Nat) : Int) ||| BitVec.ofInt 64 (X : Int)).toNat : Int) = _
  rw [BitVec.toNat_or, ofInt_u64 _ (by omega), ofInt_u64 X (by omega), nat_join 8 _ _ (by omega) (by omega), IntKind.wrap_i64]
  omega
/-- x & 255. -/
theorem low64 (x : Int) (h0 : 0 ≤ x) (h1 : x < 4294967296) : bits BinOp.and IntKind.i64 x 255 = x % 256 := by
  obtain ⟨X, rfl⟩ := Int.eq_ofNat_of_zero_le h0
  show IntKind.i64.wrap ((BitVec.ofInt 64 (X : Int) &&& BitVec.ofInt 64 ((255 : Nat) : Int)).toNat : Int) = _
  rw [BitVec.toNat_and, ofInt_u64 X (by omega), ofInt_u64 255 (by omega), nat_mask8, IntKind.wrap_i64]
  omega

set_option maxHeartbeats 1000000 in
theorem get32_any (w : World) (a : Addr) (n c : Nat) (xs : List Int) (h : BAt w (some a) n xs) (hx : ∀ x ∈ xs, 0 ≤ x ∧ x ≤ 255) (hn : 4 ≤ n) (hn2 : n ≤ 1024) :
    Calls Try.prog 22 #[.slice (some a) n c] w fun e w' => e = .returned (.int .i64 (numL (xs.take 4))) ∧ w' = w := by
  have HH := Hid.mk h
  have HX := Hid.mk hx
  have HL := Hid.mk h.1
  clear h hx
  go_enter Try.func22, Try.ntmps22
  go_wp2_with (go_at_call 21; refine (width32_any _).mono ?_; rintro e w' ⟨rfl, hw⟩; subst w')
  go_loop [3, 6] (fun r i => ∃ k : Nat, k ≤ 4 ∧ i = .int .i64 k ∧ r = .int .u32 (numL (xs.take k))) (fun _ i => 4 - (intOf i).toNat)
  case atStart => exact ⟨0, by omega, rfl, rfl⟩
  case round =>
    obtain ⟨k, hk, rfl, rfl⟩ := hrel
    by_cases hlt : k < 4
    · obtain ⟨a', e, hc⟩ := HH.out.at k (by omega)
      cases e
      have hb := getD_bound xs HX.out k
      have hs : numL (xs.take (k + 1)) = numL (xs.take k) + 256 ^ k * xs.getD k 0 := by
        rw [take_snoc xs k (by rw [HL.out]; omega), numL_snoc, List.length_take, Nat.min_eq_left (by rw [HL.out]; omega)]
      have hy := numL_bound (xs.take k) (fun x hx => HX.out x (List.mem_of_mem_take hx))
      rw [List.length_take, Nat.min_eq_left (by rw [HL.out]; omega)] at hy
      generalize xs.getD k 0 = x at *
      generalize numL (xs.take k) = y at *
      have HJ := Hid.mk (join32 y x k hlt hy hb)
      have HS := Hid.mk hs
      clear hs hy
      go_wp2
      go_round
      case rel => exact ⟨k + 1, by omega, by go_num, by rw [HS.out, HJ.out]⟩
      case measure => simp [intOf]; omega
    · have hge : (4 : Int) ≤ k := by omega
      obtain rfl : k = 4 := by omega
      have hy := numL_bound (xs.take 4) (fun x hx => HX.out x (List.mem_of_mem_take hx))
      rw [List.length_take, Nat.min_eq_left (by rw [HL.out]; omega)] at hy
      have hy2 : (256 : Int) ^ 4 = 4294967296 := by decide
      rw [hy2] at hy
      clear hy2
      generalize hgen : numL (xs.take 4) = y at hy ⊢
      have HE := Hid.mk hgen
      clear hgen
      go_wp2
      go_ret
      exact ⟨by rw [HE.out]; rfl, rfl⟩

set_option maxHeartbeats 1000000 in
theorem rnum_any (w : World) (a : Addr) (n c : Nat) (at_ : Nat) (xs : List Int) (h : BAt w (some a) n xs) (hx : ∀ x ∈ xs, 0 ≤ x ∧ x ≤ 255) (hn : at_ + 4 ≤ n) (hn2 : n ≤ 1024) :
    Calls Try.prog 26 #[.slice (some a) n c, .int .i64 at_, .int .i64 4] w fun e w' => e = .returned (.int .i64 (numL ((xs.drop at_).take 4))) ∧ w' = w := by
  have HH := Hid.mk h
  have HX := Hid.mk hx
  have HL := Hid.mk h.1
  obtain ⟨ys, hys⟩ : ∃ ys, ys = (xs.drop at_).take 4 := ⟨_, rfl⟩
  have hyl : ys.length = 4 := by rw [hys]; simp; have := h.1; omega
  have hyx : ∀ x ∈ ys, 0 ≤ x ∧ x ≤ 255 := by rw [hys]; exact fun x hx' => hx x (List.mem_of_mem_drop (List.mem_of_mem_take hx'))
  have hyg : ∀ k, k < 4 → ys.getD k 0 = xs.getD (at_ + k) 0 := by
    intro k hk
    rw [hys]
    simp [List.getD, hk]
  rw [← hys]
  have HY := Hid.mk hyl
  have HYX := Hid.mk hyx
  have HYG := Hid.mk hyg
  clear h hx hys hyl hyx hyg
  go_enter Try.func26, Try.ntmps26
  go_wp2
  go_loop [7, 8] (fun r i => ∃ k : Nat, k ≤ 4 ∧ i = .int .i64 ((k : Int) - 1) ∧ r = .int .i64 (numL (ys.drop k))) (fun _ i => ((intOf i) + 1).toNat)
  case atStart => exact ⟨4, by omega, rfl, by rw [List.drop_of_length_le (by rw [HY.out]; omega)]; rfl⟩
  case round =>
    obtain ⟨k, hk, rfl, rfl⟩ := hrel
    by_cases hlt : 0 < k
    · obtain ⟨j, rfl⟩ : ∃ j, k = j + 1 := ⟨k - 1, by omega⟩
      obtain ⟨a', e, hc⟩ := HH.out.at (at_ + j) (by omega)
      cases e
      rw [← HYG.out j (by omega)] at hc
      have hb := getD_bound ys HYX.out j
      have hs := numL_drop ys j (by rw [HY.out]; omega)
      have hy := numL_bound (ys.drop (j + 1)) (fun x hx => HYX.out x (List.mem_of_mem_drop hx))
      have hp : (256 : Int) ^ (ys.drop (j + 1)).length ≤ 16777216 := by
        rw [List.length_drop, HY.out]
        exact pow_small (4 - (j + 1)) (by omega)
      generalize ys.getD j 0 = x at *
      generalize numL (ys.drop (j + 1)) = y at *
      have hj1 : ((j + 1 : Nat) : Int) - 1 = (j : Int) := by omega
      have hy3 : y < 16777216 := by omega
      obtain ⟨hy0, -⟩ := hy
      have hw1 : IntKind.i64.wrap (y * 256) = y * 256 := by rw [IntKind.wrap_i64]; omega
      have HJ := Hid.mk (join64 y x hy0 hy3 hb)
      have HS := Hid.mk hs
      rw [hj1]
      clear hs hp hj1
      go_wp2
      go_round
      case rel => exact ⟨j, by omega, by go_num, by rw [HS.out, ← HJ.out]⟩
      case measure => simp [intOf]
    · obtain rfl : k = 0 := by omega
      go_wp2
      go_ret
      exact ⟨rfl, rfl⟩

/-- append(b, make([]byte, m)...). -/
theorem append_zeros_run (w : World) (base : Nat) (v : Value) (n m : Nat) (xs : List Int) (hown : w.ownsRow base 5 1 v n (By xs)) (hbase : base ≤ w.heap.size) (hn : 0 < n) (hm : 0 < m) (hbig : n + m ≤ 4096) :
    ∃ v' w', (Builtin.append_ #[26, 3] 26 #[v, .int .i64 m]).run Try.prog w = .ok v' w' ∧ w'.ownsRow base 5 1 v' (n + m) (By (xs ++ List.replicate m 0)) ∧ w.grownBy w' v.ownBlock := by
  obtain ⟨i0, hi, hz0, hz1, hz2⟩ := info5p
  have hlx : xs.length = n := by have := hown.1; rw [By_length] at this; omega
  have hzc : ∀ k, Builtin.zeroCells (Value.int .u8 0).cells k = (By (List.replicate k 0)).toArray := by
    intro k
    apply Array.ext'
    rw [show (By (List.replicate k 0)).toArray.toList = List.replicate k (Value.int .u8 0) by simp [By], List.eq_replicate_iff]
    simp [Builtin.zeroCells, Value.cells, Nat.mod_one]
  have hw : IntKind.i64.wrap (m : Int) = m := by rw [IntKind.wrap_i64]; omega
  have hneg : ¬ ((m : Int) < 0) := by omega
  have h48 : ¬ (281474976710656 < (m : Int)) := by omega
  have hlen : (By (xs ++ List.replicate m 0)).length = n + m := by rw [By_length]; simp [hlx]
  have hbyapp : By (xs ++ List.replicate m 0) = By xs ++ By (List.replicate m 0) := by simp [By]
  have has : ∀ w, (asInt (.int .i64 (m : Int))).run Try.prog w = .ok (m : Int) w := by intro w; simp [asInt, asIntOf]
  have h0 : m ≠ 0 := by omega
  rcases hown.2 with ⟨rfl, rfl⟩ | ⟨g, cap, cur, rfl, hbg, hg, hnc, hcm, hcs, htake⟩
  · omega
  · by_cases hroom : n + m ≤ cap
    · have hst := run_storeCells_at Try.prog g n 5 (By (List.replicate m 0)) 0 cur w hg (by rw [By_length]; simp; omega) (By_one _)
      simp only [Nat.add_zero] at hst
      refine ⟨.slice (some ⟨g, 0, none⟩) (n + m) cap, w.setRow g (cur.toList.take n ++ By (List.replicate m 0) ++ cur.toList.drop (n + (By (List.replicate m 0)).length)).toArray, ?_, ?_, ?_⟩
      · simp [Builtin.append_, run_underlying Try.underlying26, run_underlying Try.underlying3, sizeOf, typeInfo, hi, hz1, hz2, zeroValue, hz0, has, hw, hneg, h48, hroom, hzc, Addr.add_lit, hst, h0]
      · refine ⟨by rw [hlen]; omega, .inr ⟨g, cap, _, rfl, hbg, setRow_heap w g cur _ 5 _ hg, hroom, hcm, ?_, ?_⟩⟩
        · simp only [List.size_toArray, List.length_append, List.length_take, List.length_drop, Array.length_toList, By_length, List.length_replicate]
          omega
        · rw [Nat.mul_one] at htake
          rw [htake, ← hbyapp, show (n + m) * 1 = (By (xs ++ List.replicate m 0)).length by rw [hlen]; omega]
          exact List.take_left
      · exact ⟨rfl, rfl, rfl, by simp, fun k _ hk => setRow_other w g k _ (fun e => hk (by simp [Value.ownBlock, e]))⟩
    · refine ⟨.slice (some ⟨w.heap.size, 0, none⟩) (n + m) (grownCap w (n + m) cap 5), w.drew.alloc (.cells (By xs ++ By (List.replicate m 0) ++ By (List.replicate (grownCap w (n + m) cap 5 - (n + m)) 0)).toArray 5), ?_, ?_, ?_⟩
      · have holds : ∀ j u, (By xs)[j]? = some u → w.cell? ((⟨g, 0, none⟩ : Addr).add j) = some u := hown.cells (g := g) rfl
        have hfo := run_firstCells_some (P := Try.prog) w.drew 1 n ⟨g, 0, none⟩ n cap (By xs) (by rw [By_length, hlx]; omega) (by simpa using holds)
        have h63' : ¬ (9223372036854775807 < ((n : Int) + (m : Int))) := by omega
        have hfit := growslice_fits (need := n + m) (old := cap) (bytes := 1) (by omega) (by omega)
        have h48' : ¬ (281474976710656 < Builtin.nextslicecap (n + m) cap) := by omega
        simp [Builtin.append_, run_underlying Try.underlying26, run_underlying Try.underlying3, sizeOf, typeInfo, hi, hz1, hz2, zeroValue, hz0, has, hw, hneg, h48, hroom, hzc, h63', h48', Question.forced, hfo, newRow, grownCap, h0]
      · have hge := grownCap_ge w (n + m) cap 5
        have hcm2 : grownCap w (n + m) cap 5 ≤ maxLen := grownCap_le_maxLen w (n + m) cap 5 (by unfold maxLen; omega)
        refine ⟨by rw [hlen]; omega, .inr ⟨w.heap.size, _, _, rfl, hbase, heap_alloc_new w.drew _, hge, hcm2, ?_, ?_⟩⟩
        · simp only [List.size_toArray, List.length_append, By_length, List.length_replicate]
          omega
        · rw [← hbyapp, show (n + m) * 1 = (By (xs ++ List.replicate m 0)).length by rw [hlen]; omega]
          exact List.take_left
      · exact ⟨rfl, rfl, rfl, by simp, fun k hk _ => Below.heap_alloc w.drew _ k hk⟩

/-- A row of bytes that one may append to: an owned one, or one that has no room. -/
def Src (w : World) (B : Nat) (v : Value) (n : Nat) (xs : List Int) : Prop := w.ownsRow B 5 1 v n (By xs) ∨ ∃ a, v = .slice (some a) n n ∧ BAt w (some a) n xs

theorem append1_own (W : World) (B : Nat) (v : Value) (n : Nat) (xs : List Int) (y : Int) (hown : W.ownsRow B 5 1 v n (By xs)) (hB : B ≤ W.heap.size) (hn : n ≤ 4096) :
    ∃ v' W', (Builtin.append_ #[26, 26] 26 #[v, .slice (some ⟨W.heap.size, 0, none⟩) 1 1]).run Try.prog (W.alloc (.cells #[.int .u8 y] 5)) = .ok v' W' ∧ W'.ownsRow B 5 1 v' (n + 1) (By (xs ++ [y])) ∧ Below B W W' := by
  obtain ⟨i0, hi, hz0, hz1, hz2⟩ := info5p
  have hnew := blk_new W (.cells #[.int .u8 y] 5)
  obtain ⟨v3, W3, hr, hown3, hg3, _⟩ := run_append_own (P := Try.prog) (W.alloc (.cells #[.int .u8 y] 5)) B 26 26 5 i0 (.int .u8 0) 1 1 Try.underlying26 hi hz0 hz1 hz2 rfl (by decide) v n (By xs) (hown.alloc _) ⟨W.heap.size, 0, none⟩ 1 1 [.int .u8 y] rfl (fun j u hj => by
    match j, hj with
    | 0, hj =>
      cases hj
      rw [add_at, blk_cell hnew]; rfl) (by simp [Value.oneCell']) (by unfold maxLen; omega) (by omega) (by simp; omega)
  have e : By xs ++ [.int .u8 y] = By (xs ++ [y]) := by simp [By]
  rw [e] at hown3
  refine ⟨v3, W3, hr, hown3, ?_⟩
  refine ((Below.refl _ W).alloc hB _).grown hg3 (by simp; omega) (fun k hk => ?_)
  exact (hown.lt k hk).1

theorem append1_full (W : World) (a : Addr) (n : Nat) (xs : List Int) (y : Int) (hb : BAt W (some a) n xs) (hn : n ≤ 4096) :
    ∃ v' W', (Builtin.append_ #[26, 26] 26 #[.slice (some a) n n, .slice (some ⟨W.heap.size, 0, none⟩) 1 1]).run Try.prog (W.alloc (.cells #[.int .u8 y] 5)) = .ok v' W' ∧ W'.ownsRow W.heap.size 5 1 v' (n + 1) (By (xs ++ [y])) ∧ Below W.heap.size W W' := by
  obtain ⟨i0, hi, hz0, hz1, hz2⟩ := info5p
  have hnew := blk_new W (.cells #[.int .u8 y] 5)
  have hb2 : BAt (W.alloc (.cells #[.int .u8 y] 5)) (some a) n xs := hb.only (Only.of_new (fun _ => False) ((Below.refl _ W).alloc (Nat.le_refl _) _)) (fun _ _ _ h => h)
  obtain ⟨v3, W3, hr, hown3, hg3⟩ := run_append_arg_grows (P := Try.prog) (W.alloc (.cells #[.int .u8 y] 5)) 26 26 5 i0 (.int .u8 0) 1 1 Try.underlying26 hi hz0 hz1 hz2 rfl (by decide) a n n (By xs) (by rw [By_length, hb.1, Nat.mul_one]) (fun j u hj => by
      have hjl := (List.getElem?_eq_some_iff.1 hj).1
      rw [By_length] at hjl
      rw [By_get xs j hjl] at hj
      obtain ⟨a', e, hc⟩ := hb2.at j (by rw [← hb.1]; exact hjl)
      cases e
      rw [hc]
      exact hj) ⟨W.heap.size, 0, none⟩ 1 1 [.int .u8 y] rfl (fun j u hj => by
    match j, hj with
    | 0, hj =>
      cases hj
      rw [add_at, blk_cell hnew]; rfl) (by omega) (by unfold maxLen; omega) (by omega)
  have e : By xs ++ [.int .u8 y] = By (xs ++ [y]) := by simp [By]
  rw [e] at hown3
  exact ⟨v3, W3, hr, owns_base hown3 (by simp), ((Below.refl _ W).alloc (Nat.le_refl _) _).grown hg3 (by simp) (by simp)⟩

/-- append(b, y). -/
theorem append1_run (W : World) (B : Nat) (v : Value) (n : Nat) (xs : List Int) (y : Int) (hsrc : Src W B v n xs) (hB : B ≤ W.heap.size) (hn : n ≤ 4096) :
    ∃ v' W', (Builtin.append_ #[26, 26] 26 #[v, .slice (some ⟨W.heap.size, 0, none⟩) 1 1]).run Try.prog (W.alloc (.cells #[.int .u8 y] 5)) = .ok v' W' ∧ W'.ownsRow B 5 1 v' (n + 1) (By (xs ++ [y])) ∧ Below B W W' := by
  rcases hsrc with h | ⟨a, rfl, h⟩
  · exact append1_own W B v n xs y h hB hn
  · obtain ⟨v', W', h1, h2, h3⟩ := append1_full W a n xs y h hn
    exact ⟨v', W', h1, owns_base h2 hB, h3.mono hB⟩

set_option maxHeartbeats 1000000 in
theorem rput_any (w : World) (B : Nat) (v : Value) (n K : Nat) (xs : List Int) (m : Int) (hown : Src w B v n xs) (hB : B ≤ w.heap.size) (hn : n ≤ 1024) (hK1 : 0 < K) (hK : K ≤ 4) (h0 : 0 ≤ m) (h1 : m < 4294967296) :
    Calls Try.prog 24 #[v, .int .i64 m, .int .i64 K] w fun e w' => ∃ v', e = .returned v' ∧ w'.ownsRow B 5 1 v' (n + K) (By (xs ++ leL m K)) ∧ Below B w w' := by
  have HO := Hid.mk hown
  clear hown
  go_enter Try.func24, Try.ntmps24
  go_wp2
  go_loopw [0, 7] (fun b i wr => ∃ k : Nat, k ≤ K ∧ i = .int .i64 k ∧ Src wr B b (n + k) (xs ++ leL m k) ∧ (0 < k → wr.ownsRow B 5 1 b (n + k) (By (xs ++ leL m k))) ∧ Below B w wr) (fun _ i _ => K - (intOf i).toNat)
  case atStart => exact ⟨0, by omega, rfl, by simpa [leL] using HO.out, fun h => by omega, Below.refl _ _⟩
  case round =>
    obtain ⟨k, hk, rfl, hb, hb2, hbw⟩ := hrel
    by_cases hlt : k < K
    · have hr2 : 0 ≤ m / 256 ^ k := Int.ediv_nonneg h0 (Int.pow_nonneg (by decide))
      have hr3 : m / 256 ^ k ≤ m := Int.ediv_le_self _ h0
      have e2 : (2 : Int) ^ (8 * k) = 256 ^ k := by rw [Int.pow_mul]; rfl
      have hl := low64 (m / 256 ^ k) hr2 (by omega)
      have hyb : 0 ≤ m / 256 ^ k % 256 ∧ m / 256 ^ k % 256 ≤ 255 := by omega
      obtain ⟨v', W', hr, hown', hB'⟩ := append1_run wr B _ (n + k) _ (m / 256 ^ k % 256) hb (Nat.le_trans hB hbw.size) (by omega)
      have HN := Hid.mk (show W'.ownsRow B 5 1 v' (n + (k + 1)) (By (xs ++ leL m (k + 1))) by rw [leL_succ, ← List.append_assoc]; exact hown')
      have HB2 := Hid.mk (hbw.trans hB')
      clear hown' hB' hb hb2 hbw
      generalize m / 256 ^ k % 256 = y at *
      have HR := Hid.mk hr
      clear hr
      go_wp2_with (at_builtin; refine wpList_append_known rfl (.tmp 13) (.tmp 21) 26 rfl _ (.slice (some ⟨wr.heap.size, 0, none⟩) 1 1) _ _ rfl rfl HR.out ?_)
      go_roundw
      case rel => exact ⟨k + 1, by omega, by go_num, .inl HN.out, fun _ => HN.out, HB2.out⟩
      case measure => simp [intOf]; omega
    · have hge : (K : Int) ≤ k := by omega
      obtain rfl : k = K := by omega
      have HN := Hid.mk (hb2 hK1)
      have HB2 := Hid.mk hbw
      clear hb hb2 hbw
      go_wp2
      go_ret
      exact ⟨_, rfl, HN.out, HB2.out⟩
end Go.Proofs.Ytebeejmpnkdllaa
