/-
  What the small calls do: mask, has, Get, Clone, With, between, and the document's own Get, With, bound.
-/
import Derived.Test.YtpcafjaajklkoaaBits
import Derived.BigQuiet
import Derived.Deep.QuietTactic
import Derived.Deep.RegionWith
namespace Go.Proofs.Ytpcafjaajklkoaa
open Go Go.Proofs Go.RowKit

theorem info5 : (Try.prog.info? 5).map (fun i => (i.zero, i.size, i.bytes)) = some (some (.int .u8 0), 1, 1) := by kernel_rfl
theorem info5p : ∃ i0, Try.prog.info? 5 = some i0 ∧ i0.zero = some (.int .u8 0) ∧ i0.size = 1 ∧ i0.bytes = 1 := by
  obtain ⟨i0, hi, hz0, hz1, hz2⟩ := info_parts info5
  exact ⟨i0, hi, hz0, hz1, hz2⟩

set_option maxHeartbeats 400000 in
theorem mask_any (w : World) (q : Nat) (hq : q < 9223372036854775808) : Calls Try.prog 17 #[.int .i64 q] w fun e w' => e = .returned (.int .u8 (maskN q)) ∧ w' = w := by
  have hm : (2 : Int) ^ (q % 8) % 256 = maskN q := by
    have := maskN_bound q
    have e : (2 : Int) ^ (q % 8) = maskN q := by simp [maskN]
    rw [e]
    omega
  go_enter Try.func17, Try.ntmps17
  go_wp2
  rw [hm]
  go_ret
  exact ⟨rfl, rfl⟩

theorem has_any (w : World) (ao : Option Addr) (n c : Nat) (i : Int) (hi : I64 i) : Calls Try.prog 16 #[.slice ao n c, .int .i64 i] w fun e w' => e = .returned (.bool (hasI n i)) ∧ w' = w := by
  obtain ⟨hi1, hi2⟩ := hi
  by_cases h0 : 0 ≤ i
  · obtain ⟨q, rfl⟩ : ∃ q : Nat, i = q := ⟨i.toNat, by omega⟩
    rw [hasI_nat]
    go_enter Try.func16, Try.ntmps16
    go_wp2
    go_ret
    refine ⟨?_, rfl⟩
    simp
    omega
  · rw [hasI_neg _ _ (by omega)]
    go_enter Try.func16, Try.ntmps16
    go_wp2
    go_ret
    exact ⟨rfl, rfl⟩

/-! Get -/

theorem refget_yes (w : World) (a : Addr) (n c q : Nat) (x : Int) (hq : q / 8 < n) (hq2 : q < 9223372036854775808) (hx : 0 ≤ x ∧ x ≤ 255) (hc : w.cell? (a.add (q / 8)) = some (.int .u8 x)) :
    Calls Try.prog 12 #[.slice (some a) n c, .int .i64 q] w fun e w' => e = .returned (.bool (bitB x (q % 8))) ∧ w' = w := by
  have hs := u8_shr x (q % 8) (by omega) hx
  go_enter Try.func12, Try.ntmps12
  go_wp2
  go_ret
  exact ⟨rfl, rfl⟩

theorem refget_no (w : World) (ao : Option Addr) (n c : Nat) (i : Int) (hi : I64 i) (hno : hasI n i = false) :
    Calls Try.prog 12 #[.slice ao n c, .int .i64 i] w fun e w' => e = .returned (.bool false) ∧ w' = w := by
  obtain ⟨hi1, hi2⟩ := hi
  by_cases h0 : 0 ≤ i
  · obtain ⟨q, rfl⟩ : ∃ q : Nat, i = q := ⟨i.toNat, by omega⟩
    rw [hasI_nat] at hno
    simp at hno
    go_enter Try.func12, Try.ntmps12
    go_wp2
    go_ret
    exact ⟨rfl, rfl⟩
  · clear hno
    go_enter Try.func12, Try.ntmps12
    go_wp2
    go_ret
    exact ⟨rfl, rfl⟩

theorem get_yes (w : World) (a : Addr) (n c q : Nat) (x : Int) (hq : q / 8 < n) (hq2 : q < 9223372036854775808) (hx : 0 ≤ x ∧ x ≤ 255) (hc : w.cell? (a.add (q / 8)) = some (.int .u8 x)) :
    Calls Try.prog 11 #[.slice (some a) n c, .int .i64 q] w fun e w' => e = .returned (.bool (bitB x (q % 8))) ∧ ∃ m, w' = w.drewN m := by
  have h1 : Hid (∀ w, Calls Try.prog 16 #[.slice (some a) n c, .int .i64 q] w fun e w' => e = .returned (.bool true) ∧ w' = w) := Hid.mk fun w => by
    have := has_any w (some a) n c q ⟨by omega, by omega⟩
    rw [hasI_nat, decide_eq_true hq] at this
    exact this
  have hq3 : (q : Int) / 8 < n := by omega
  have hs := u8_mask x q hx
  go_enter Try.func11, Try.ntmps11
  go_wp2
  go_quiet (first | (go_at_call 16; exact Calls.quiet_of_same (h1.out _)) | (go_at_call 17; exact Calls.quiet_of_same (mask_any _ q hq2)))
  go_wp2
  go_ret
  exact ⟨rfl, _, rfl⟩

theorem get_no (w : World) (ao : Option Addr) (n c : Nat) (i : Int) (hi : I64 i) (hno : hasI n i = false) :
    Calls Try.prog 11 #[.slice ao n c, .int .i64 i] w fun e w' => e = .returned (.bool false) ∧ ∃ m, w' = w.drewN m := by
  have h1 : Hid (∀ w, Calls Try.prog 16 #[.slice ao n c, .int .i64 i] w fun e w' => e = .returned (.bool false) ∧ w' = w) := Hid.mk fun w => by
    have := has_any w ao n c i hi
    rw [hno] at this
    exact this
  clear hi hno
  go_enter Try.func11, Try.ntmps11
  go_wp2
  go_quiet (first | (go_at_call 16; exact Calls.quiet_of_same (h1.out _)))
  go_wp2
  go_ret
  exact ⟨rfl, _, rfl⟩
/-! rows of bytes -/

/-- A slice of bytes as it lies in a world: its bytes where there is one. -/
def BAt (W : World) (ao : Option Addr) (n : Nat) (xs : List Int) : Prop :=
  xs.length = n ∧ (0 < n → ∃ a, ao = some a ∧ a.block < W.heap.size ∧ ∀ i, i < n → W.cell? (a.add i) = some (.int .u8 (xs.getD i 0)))

theorem add_block (a : Addr) (i : Nat) : (a.add i).block = a.block := by unfold Addr.add; split <;> rfl

theorem BAt.only {S : Nat → Prop} {W W' : World} {ao : Option Addr} {n : Nat} {xs : List Int} (h : BAt W ao n xs) (ho : Only S W W') (hS : ∀ a, ao = some a → a.block < W.heap.size → ¬ S a.block) : BAt W' ao n xs := by
  refine ⟨h.1, fun hn => ?_⟩
  obtain ⟨a, e, hlt, hc⟩ := h.2 hn
  refine ⟨a, e, Nat.lt_of_lt_of_le hlt ho.size, fun i hi => ?_⟩
  rw [World.cell?_of_block (w := W) (by rw [add_block]; exact ho.block _ hlt (hS a e hlt))]
  exact hc i hi

/-- 'string(b)'. -/
theorem conv_bytes (W : World) (ao : Option Addr) (n c : Nat) (xs : List Int) (h : BAt W ao n xs) : (convert 22 9 (.slice ao n c)).run Try.prog W = .ok (.string (strOfNums xs)) W := by
  rw [run_convert_bytes_string W 22 9 5 ao n c Try.underlying22 Try.underlying5 Try.underlying9]
  rcases Nat.eq_zero_or_pos n with h0 | h0
  · subst h0
    obtain rfl : xs = [] := List.eq_nil_of_length_eq_zero h.1
    cases ao <;> simp [Conv.bytesToString, loadCells, strOfNums]
    all_goals rfl
  · obtain ⟨a, rfl, hlt, hc⟩ := h.2 h0
    have hl : (loadCells a n).run Try.prog W = .ok (xs.map (Value.int .u8)).toArray W := by
      have := run_loadCells_list (P := Try.prog) W a (By xs) (fun j v hj => by
        have hjl := (List.getElem?_eq_some_iff.1 hj).1
        rw [By_length] at hjl
        rw [By_get xs j hjl] at hj
        rw [hc j (by rw [← h.1]; exact hjl)]
        exact hj)
      rw [By_length, h.1] at this
      exact this
    rw [run_bytesToString W a n c xs hl, foldl_push_bytes]
    simp [strOfNums, ByteArray.empty, ByteArray.emptyWithCapacity]
    rfl

/-- 'append([]byte(nil), b...)'. -/
theorem append_nil_run (W : World) (ao : Option Addr) (n c : Nat) (xs : List Int) (h : BAt W ao n xs) (hbig : n ≤ 140737488355328) (hnone : ao = none → n = 0 ∧ c = 0) :
    ∃ v' W', (Builtin.append_ #[22, 22] 22 #[.slice none 0 0, .slice ao n c]).run Try.prog W = .ok v' W' ∧ W'.ownsRow W.heap.size 5 1 v' n (By xs) ∧ W.grownBy W' none := by
  obtain ⟨i0, hi, hz0, hz1, hz2⟩ := info5p
  cases ao with
  | none =>
    obtain ⟨rfl, rfl⟩ := hnone rfl
    obtain rfl : xs = [] := List.eq_nil_of_length_eq_zero h.1
    exact ⟨.slice none 0 0, W, run_append_owned_none (P := Try.prog) W W.heap.size 22 22 5 i0 1 Try.underlying22 hi (.slice none 0 0) 0 [] (World.ownsRow_nil W _ 5 1), World.ownsRow_nil W _ 5 1, World.grownBy.refl _ _⟩
  | some a =>
    obtain ⟨v', w', hr, h2, h3, _⟩ := run_append_own (P := Try.prog) W W.heap.size 22 22 5 i0 (.int .u8 0) 1 1 Try.underlying22 hi hz0 hz1 hz2 rfl (by decide) (.slice none 0 0) 0 [] (World.ownsRow_nil W _ 5 1) a n c (By xs) (by rw [By_length, h.1, Nat.mul_one]) (fun j u hj => by
      have hjl := (List.getElem?_eq_some_iff.1 hj).1
      rw [By_length] at hjl
      rw [By_get xs j hjl] at hj
      obtain ⟨a', e, hlt, hc⟩ := h.2 (by have := h.1; omega)
      cases e
      rw [hc j (by rw [← h.1]; exact hjl)]
      exact hj) (By_one xs) (by unfold maxLen; omega) (by omega) (Nat.le_refl _)
    exact ⟨v', w', hr, by simpa using h2, h3⟩

/-- append whose run is known. -/
theorem wpList_append_known {P : Program} {w : World} {ops : Array Oper} {rest : List Oper} {o : Oper} {a : Act} {Q : Exit → Act → World → Prop} (hgd : o.guard = none) (s x : Operand) (t : TypeId)
    (ho : o.op = .call { callee := .builtin .append, args := #[s, x], argTypes := #[t, t] }) (v vx v' : Value) (w' : World) (hs : a.eval s = v) (hx : a.eval x = vx)
    (hrun : (Builtin.append_ #[t, t] o.type #[v, vx]).run P w = .ok v' w') (h : wpList P ops Q rest (a.put o.dst v') w') : wpList P ops Q (o :: rest) a w := by
  refine wpList_plain hgd fun K hK => ?_
  unfold Oper.wp execOp
  simp only [ho, resolve, invoke, builtin, Sem.run_bind, Sem.run_pure, Result.andThen_ok, List.map_toArray, List.map_cons, List.map_nil, hs, hx, hrun]
  exact hK _ _ h

theorem owns_BAt {w : World} {base : Nat} {v : Value} {n : Nat} {xs : List Int} (h : w.ownsRow base 5 1 v n (By xs)) : ∃ ao c, v = .slice ao n c ∧ BAt w ao n xs ∧ (∀ a, ao = some a → base ≤ a.block ∧ v.ownBlock = some a.block ∧ a.off = 0 ∧ a.spot = none) ∧ (0 < n → ao ≠ none) := by
  have h' := h
  obtain ⟨h1, h2⟩ := h
  rw [By_length, Nat.mul_one] at h1
  rcases h2 with ⟨rfl, rfl⟩ | ⟨g, cap, cur, rfl, hg, hh, hnc, hm, hsz, ht⟩
  · exact ⟨none, 0, rfl, ⟨h1, fun h => by omega⟩, fun a e => (by cases e), fun h => by omega⟩
  · obtain ⟨g', cap', e, _, hlt, _, _, hcell⟩ := owns_bytes h' (by simp)
    cases e
    exact ⟨_, _, rfl, ⟨h1, fun _ => ⟨_, rfl, hlt, hcell⟩⟩, fun a e => (by cases e; exact ⟨hg, rfl, rfl, rfl⟩), fun _ => by simp⟩

/-- Block g holds n bytes at least, and may be written. -/
def Bytex (W : World) (g n : Nat) : Prop := ∃ cur, W.heap[g]? = some (.cells cur 5 (0, 0)) ∧ ∀ i, i < n → ∃ v : Int, cur[i]? = some (.int .u8 v)

theorem Bytex.at {W : World} {g n : Nat} (h : Bytex W g n) (i : Nat) (hi : i < n) : ∃ v : Int, W.cell? ⟨g, i, none⟩ = some (.int .u8 v) ∧ W.frozen? ⟨g, i, none⟩ = false := by
  obtain ⟨cur, hb, hc⟩ := h
  obtain ⟨v, hv⟩ := hc i hi
  exact ⟨v, by rw [blk_cell hb, hv], blk_free hb i⟩

theorem Bytex.set {W : World} {g n : Nat} (h : Bytex W g n) (i : Nat) (v : Int) : Bytex (W.setCell ⟨g, i, none⟩ (.int .u8 v)) g n := by
  obtain ⟨cur, hb, hc⟩ := h
  refine ⟨_, blk_set hb, fun j hj => ?_⟩
  by_cases e : i = j
  · subst e
    obtain ⟨u, hu⟩ := hc i hj
    have hlt : i < cur.size := (Array.getElem?_eq_some_iff.1 hu).1
    exact ⟨v, by simp [hlt]⟩
  · obtain ⟨u, hu⟩ := hc j hj
    exact ⟨u, by rw [Array.getElem?_setIfInBounds_ne e]; exact hu⟩

theorem owns_bytex {w : World} {base : Nat} {v : Value} {n : Nat} {xs : List Int} (h : w.ownsRow base 5 1 v n (By xs)) (g : Nat) (hg : v.ownBlock = some g) : Bytex w g n := by
  obtain ⟨h1, h2⟩ := h
  rcases h2 with h2 | ⟨g', cap, cur, rfl, _, hh, hnc, hm, hsz, ht⟩
  · rw [h2.1] at hg
    simp [Value.ownBlock] at hg
  · simp [Value.ownBlock] at hg
    subst hg
    rw [By_length] at h1
    refine ⟨cur, hh, fun i hi => ?_⟩
    have hi2 : i < xs.length := by omega
    refine ⟨xs[i], ?_⟩
    rw [← Array.getElem?_toList]
    have : cur.toList[i]? = (By xs)[i]? := by rw [← ht, List.getElem?_take, if_pos (by omega)]
    rw [this, By_get xs i hi2]
    simp [List.getD, List.getElem?_eq_getElem hi2]

theorem owns_block {w : World} {base : Nat} {a : Addr} {n c : Nat} {xs : List Value} (h : w.ownsRow base 5 1 (.slice (some a) n c) n xs) : (Value.slice (some a) n c).ownBlock = some a.block := by
  rcases h.2 with ⟨e, _⟩ | ⟨g, cap, cur, e, _⟩
  · cases e
  · cases e; rfl

/-- Get, whatever the row and the number. -/
theorem BAt.at {W : World} {ao : Option Addr} {n : Nat} {xs : List Int} (h : BAt W ao n xs) (i : Nat) (hi : i < n) : ∃ a, ao = some a ∧ W.cell? (a.add i) = some (.int .u8 (xs.getD i 0)) := by
  obtain ⟨a, e, _, hc⟩ := h.2 (by omega)
  exact ⟨a, e, hc i hi⟩

theorem BAt.drewN {W : World} {ao : Option Addr} {n : Nat} {xs : List Int} (h : BAt W ao n xs) (m : Nat) : BAt (W.drewN m) ao n xs := h

theorem get_any (w : World) (ao : Option Addr) (n c : Nat) (xs : List Int) (h : BAt w ao n xs) (hx : ∀ x ∈ xs, 0 ≤ x ∧ x ≤ 255) (i : Int) (hi : I64 i) :
    Calls Try.prog 11 #[.slice ao n c, .int .i64 i] w fun e w' => e = .returned (.bool (getI xs i)) ∧ ∃ m, w' = w.drewN m := by
  cases hh : hasI n i with
  | false =>
    rw [getI_no xs i (by rw [h.1]; exact hh)]
    exact get_no w ao n c i hi hh
  | true =>
    have hh' := hh
    simp [hasI] at hh'
    obtain ⟨hi1, hi2⟩ := hi
    obtain ⟨q, rfl⟩ : ∃ q : Nat, i = q := ⟨i.toNat, by omega⟩
    simp only [Int.toNat_natCast] at hh'
    obtain ⟨a, rfl, hc⟩ := h.at (q / 8) hh'.2
    rw [getI_nat]
    exact get_yes w a n c q _ hh'.2 (by omega) (getD_bound xs hx _) hc

theorem refget_any (w : World) (ao : Option Addr) (n c : Nat) (xs : List Int) (h : BAt w ao n xs) (hx : ∀ x ∈ xs, 0 ≤ x ∧ x ≤ 255) (i : Int) (hi : I64 i) :
    Calls Try.prog 12 #[.slice ao n c, .int .i64 i] w fun e w' => e = .returned (.bool (getI xs i)) ∧ w' = w := by
  cases hh : hasI n i with
  | false =>
    rw [getI_no xs i (by rw [h.1]; exact hh)]
    exact refget_no w ao n c i hi hh
  | true =>
    have hh' := hh
    simp [hasI] at hh'
    obtain ⟨hi1, hi2⟩ := hi
    obtain ⟨q, rfl⟩ : ∃ q : Nat, i = q := ⟨i.toNat, by omega⟩
    simp only [Int.toNat_natCast] at hh'
    obtain ⟨a, rfl, hc⟩ := h.at (q / 8) hh'.2
    rw [getI_nat]
    exact refget_yes w a n c q _ hh'.2 (by omega) (getD_bound xs hx _) hc

theorem bound_any (w : World) (ao : Option Addr) (n c : Nat) (xs : List Int) (h : xs.length = n) (hn : n ≤ 140737488355328) (i : Int) (hi : I64 i) :
    Calls Try.prog 19 #[.slice ao n c, .int .i64 i] w fun e w' => e = .returned (.int .i64 (min i (8 * (n : Int)))) ∧ w' = w := by
  obtain ⟨hi1, hi2⟩ := hi
  by_cases hb : 8 * (n : Int) < i
  · rw [Int.min_eq_right (by omega)]
    go_enter Try.func19, Try.ntmps19
    go_wp2
    go_ret
    exact ⟨rfl, rfl⟩
  · rw [Int.min_eq_left (by omega)]
    go_enter Try.func19, Try.ntmps19
    go_wp2
    go_ret
    exact ⟨rfl, rfl⟩

theorem between_any (w : World) (ao : Option Addr) (l c : Nat) (f n : Int) :
    Calls Try.prog 18 #[.slice ao l c, .int .i64 f, .int .i64 n] w fun e w' => e = .returned (.func (.func 20) #[] #[.pointer (some ⟨w.heap.size + 1, 0, none⟩), .pointer (some ⟨w.heap.size + 1 + 1, 0, none⟩), .pointer (some ⟨w.heap.size, 0, none⟩)]) ∧
      w' = ((w.alloc (.cells #[.slice ao l c] 22)).alloc (.cells #[.int .i64 f] 3)).alloc (.cells #[.int .i64 n] 3) := by
  go_enter Try.func18, Try.ntmps18
  go_wp2
  go_ret
  exact ⟨rfl, rfl⟩

set_option maxHeartbeats 400000 in
theorem clone_any (a : Addr) (n c : Nat) (xs : List Int) (w : World) (hx : xs.length = n) (hbig : n ≤ 140737488355328) (hc : ∀ i, i < n → w.cell? (a.add i) = some (.int .u8 (xs.getD i 0))) :
    Calls Try.prog 15 #[.slice (some a) n c] w fun e w' => ∃ v', e = .returned v' ∧ w'.ownsRow w.heap.size 5 1 v' n (By xs) ∧ v' ≠ .slice none 0 0 ∧ Below w.heap.size w w' := by
  obtain ⟨i0, hi, hz0, hz1, hz2⟩ := info_parts info5
  have q22 : ∀ (w : World) (a : Option Addr) (n c n' c' : Nat), (binOp .eql 22 (.slice a n c) (.slice none n' c')).run Try.prog w = .ok (.bool a.isNone) w := fun w a n c n' c' => Lib.run_eql_slice_nil w _ _ a n c n' c' Try.underlying22
  have A : Hid (∀ i, i < n → w.cell? (a.add i) = some (.int .u8 (xs.getD i 0))) := hc
  clear hc
  go_enter Try.func15, Try.ntmps15
  go_wp2_with (at_builtin; refine wpList_append_own _ rfl _ _ 22 rfl w.heap.size 5 i0 (.int .u8 0) 1 1 Try.underlying22 hi hz0 hz1 hz2 rfl (by decide) _ _ _ rfl (World.ownsRow_made w #[] 0 (Nat.le_refl _) (Nat.zero_le _) rfl) a n c (By xs) rfl ?qc1 ?qc2 ?qc3 ?qc4 ?qc5 ?qc6 ?_)
  case qc1 => simp [By_length]; omega
  case qc2 =>
    intro j u hj
    have hjn : j < n := by
      have := (List.getElem?_eq_some_iff.1 hj).1
      rw [By_length] at this
      omega
    refine Lib.cell?_alloc_some _ ?_
    rw [A.out j hjn]
    rw [By_get xs j (by omega)] at hj
    exact hj
  case qc3 => exact By_one xs
  case qc4 => unfold maxLen; omega
  case qc5 => omega
  case qc6 => simp
  intro v' w1 hown hgrow hnil
  go_wp2
  go_ret
  refine ⟨v', rfl, by simpa using hown, ?_, ?_⟩
  · first | exact hnil | (intro e; exact absurd (hnil.1 e).1 (by simp))
  · exact ((Below.refl _ w).alloc (Nat.le_refl _) _).grown hgrow (by simp) (by intro k hk; simp [Value.ownBlock] at hk; omega)

theorem clone_nil (w : World) : Calls Try.prog 15 #[.slice none 0 0] w fun e w' => e = .returned (.slice none 0 0) ∧ w' = w := by
  have q22 : ∀ (w : World) (a : Option Addr) (n c n' c' : Nat), (binOp .eql 22 (.slice a n c) (.slice none n' c')).run Try.prog w = .ok (.bool a.isNone) w := fun w a n c n' c' => Lib.run_eql_slice_nil w _ _ a n c n' c' Try.underlying22
  go_enter Try.func15, Try.ntmps15
  go_wp2
  go_ret
  exact ⟨rfl, rfl⟩

theorem clone_all (w : World) (ao : Option Addr) (n c : Nat) (xs : List Int) (h : BAt w ao n xs) (hnone : ao = none → n = 0 ∧ c = 0) (hbig : n ≤ 140737488355328) :
    Calls Try.prog 15 #[.slice ao n c] w fun e w' => ∃ v', e = .returned v' ∧ w'.ownsRow w.heap.size 5 1 v' n (By xs) ∧ Below w.heap.size w w' := by
  cases ao with
  | none =>
    obtain ⟨rfl, rfl⟩ := hnone rfl
    obtain rfl : xs = [] := List.eq_nil_of_length_eq_zero h.1
    refine (clone_nil w).mono ?_
    rintro e w' ⟨rfl, rfl⟩
    exact ⟨_, rfl, World.ownsRow_nil _ _ 5 1, Below.refl _ _⟩
  | some a =>
    refine (clone_any a n c xs w h.1 hbig (fun i hi => ?_)).mono ?_
    · obtain ⟨a', e, hc⟩ := h.at i hi
      cases e
      exact hc
    · rintro e w' ⟨v', rfl, h1, _, h2⟩
      exact ⟨v', rfl, h1, h2⟩
end Go.Proofs.Ytpcafjaajklkoaa
