/-
  Rows of bytes in memory; the document's own Get and With, for every row and number.
-/
import Derived.Test.YtebeejmpnkdllaaBits
import Derived.BigQuiet
import Derived.Deep.QuietTactic
import Derived.Deep.RegionWith
namespace Go.Proofs.Ytebeejmpnkdllaa
open Go Go.Proofs Go.RowKit

theorem info5 : (Try.prog.info? 5).map (fun i => (i.zero, i.size, i.bytes)) = some (some (.int .u8 0), 1, 1) := by kernel_rfl
theorem info5p : ∃ i0, Try.prog.info? 5 = some i0 ∧ i0.zero = some (.int .u8 0) ∧ i0.size = 1 ∧ i0.bytes = 1 := by
  obtain ⟨i0, hi, hz0, hz1, hz2⟩ := info_parts info5
  exact ⟨i0, hi, hz0, hz1, hz2⟩

theorem refget_yes (w : World) (a : Addr) (n c q : Nat) (x : Int) (hq : q / 8 < n) (hq2 : q < 9223372036854775808) (hx : 0 ≤ x ∧ x ≤ 255) (hc : w.cell? (a.add (q / 8)) = some (.int .u8 x)) :
    Calls Try.prog 33 #[.slice (some a) n c, .int .i64 q] w fun e w' => e = .returned (.bool (bitB x (q % 8))) ∧ w' = w := by
  have hs := u8_shr x (q % 8) (by omega) hx
  go_enter Try.func33, Try.ntmps33
  go_wp2
  go_ret
  exact ⟨rfl, rfl⟩

theorem refget_no (w : World) (ao : Option Addr) (n c : Nat) (i : Int) (hi : I64 i) (hno : hasI n i = false) :
    Calls Try.prog 33 #[.slice ao n c, .int .i64 i] w fun e w' => e = .returned (.bool false) ∧ w' = w := by
  obtain ⟨hi1, hi2⟩ := hi
  by_cases h0 : 0 ≤ i
  · obtain ⟨q, rfl⟩ : ∃ q : Nat, i = q := ⟨i.toNat, by omega⟩
    rw [hasI_nat] at hno
    simp at hno
    go_enter Try.func33, Try.ntmps33
    go_wp2
    go_ret
    exact ⟨rfl, rfl⟩
  · clear hno
    go_enter Try.func33, Try.ntmps33
    go_wp2
    go_ret
    exact ⟨rfl, rfl⟩

/-! rows of bytes -/

/-- A slice of bytes as it lies in a world: its bytes where there is one. -/
def BAt (W : World) (ao : Option Addr) (n : Nat) (xs : List Int) : Prop :=
  xs.length = n ∧ (0 < n → ∃ a, ao = some a ∧ a.block < W.heap.size ∧ ∀ i, i < n → W.cell? (a.add i) = some (.int .u8 (xs.getD i 0)))

theorem add_block (a : Addr) (i : Nat) : (a.add i).block = a.block := by unfold Addr.add; split <;> rfl

theorem BAt.only {S : Nat → Prop} {W W' : World} {ao : Option Addr} {n : Nat} {xs : List Int} (h : BAt W ao n xs) (ho : Only S W W') (hS : ∀ a, ao = some a → a.block < W.heap.size → ¬ S a.block) : BAt W' ao n xs := by
  refine ⟨h.1, fun hn => ?_⟩
  obtain ⟨a, e, hlt, hc⟩ := h.2 hn
  refine ⟨a, e, Nat.lt_of_lt_of_le hlt ho.size, fun i hi => ?_⟩
  rw [World.cell?_of_block (w := W) (by rw [add_block]; exact ho.block _ hlt (hS a e hlt))]
  exact hc i hi

/-- 'string(b)'. -/
theorem conv_bytes (W : World) (ao : Option Addr) (n c : Nat) (xs : List Int) (h : BAt W ao n xs) : (convert 26 9 (.slice ao n c)).run Try.prog W = .ok (.string (strOfNums xs)) W := by
  rw [run_convert_bytes_string W 26 9 5 ao n c Try.underlying26 Try.underlying5 Try.underlying9]
  rcases Nat.eq_zero_or_pos n with h0 | h0
  · subst h0
    obtain rfl : xs = [] := List.eq_nil_of_length_eq_zero h.1
    cases ao <;> simp [Conv.bytesToString, loadCells, strOfNums]
    all_goals rfl
  · obtain ⟨a, rfl, hlt, hc⟩ := h.2 h0
    have hl : (loadCells a n).run Try.prog W = .ok (xs.map (Value.int .u8)).toArray W := by
      have := run_loadCells_list (P := Try.prog) W a (By xs) (fun j v hj => by
        have hjl := (List.getElem?_eq_some_iff.1 hj).1
        rw [By_length] at hjl
        rw [By_get xs j hjl] at hj
        rw [hc j (by rw [← h.1]; exact hjl)]
        exact hj)
      rw [By_length, h.1] at this
      exact this
    rw [run_bytesToString W a n c xs hl, foldl_push_bytes]
    simp [strOfNums, ByteArray.empty, ByteArray.emptyWithCapacity]
    rfl

/-- 'append([]byte(nil), b...)'. -/
theorem append_nil_run (W : World) (ao : Option Addr) (n c : Nat) (xs : List Int) (h : BAt W ao n xs) (hbig : n ≤ 140737488355328) (hnone : ao = none → n = 0 ∧ c = 0) :
    ∃ v' W', (Builtin.append_ #[26, 26] 26 #[.slice none 0 0, .slice ao n c]).run Try.prog W = .ok v' W' ∧ W'.ownsRow W.heap.size 5 1 v' n (By xs) ∧ W.grownBy W' none := by
  obtain ⟨i0, hi, hz0, hz1, hz2⟩ := info5p
  cases ao with
  | none =>
    obtain ⟨rfl, rfl⟩ := hnone rfl
    obtain rfl : xs = [] := List.eq_nil_of_length_eq_zero h.1
    exact ⟨.slice none 0 0, W, run_append_owned_none (P := Try.prog) W W.heap.size 26 26 5 i0 1 Try.underlying26 hi (.slice none 0 0) 0 [] (World.ownsRow_nil W _ 5 1), World.ownsRow_nil W _ 5 1, World.grownBy.refl _ _⟩
  | some a =>
    obtain ⟨v', w', hr, h2, h3, _⟩ := run_append_own (P := Try.prog) W W.heap.size 26 26 5 i0 (.int .u8 0) 1 1 Try.underlying26 hi hz0 hz1 hz2 rfl (by decide) (.slice none 0 0) 0 [] (World.ownsRow_nil W _ 5 1) a n c (By xs) (by rw [By_length, h.1, Nat.mul_one]) (fun j u hj => by
      have hjl := (List.getElem?_eq_some_iff.1 hj).1
      rw [By_length] at hjl
      rw [By_get xs j hjl] at hj
      obtain ⟨a', e, hlt, hc⟩ := h.2 (by have := h.1; omega)
      cases e
      rw [hc j (by rw [← h.1]; exact hjl)]
      exact hj) (By_one xs) (by unfold maxLen; omega) (by omega) (Nat.le_refl _)
    exact ⟨v', w', hr, by simpa using h2, h3⟩

/-- append whose run is known. -/
theorem wpList_append_known {P : Program} {w : World} {ops : Array Oper} {rest : List Oper} {o : Oper} {a : Act} {Q : Exit → Act → World → Prop} (hgd : o.guard = none) (s x : Operand) (t : TypeId)
    (ho : o.op = .call { callee := .builtin .append, args := #[s, x], argTypes := #[t, t] }) (v vx v' : Value) (w' : World) (hs : a.eval s = v) (hx : a.eval x = vx)
    (hrun : (Builtin.append_ #[t, t] o.type #[v, vx]).run P w = .ok v' w') (h : wpList P ops Q rest (a.put o.dst v') w') : wpList P ops Q (o :: rest) a w := by
  refine wpList_plain hgd fun K hK => ?_
  unfold Oper.wp execOp
  simp only [ho, resolve, invoke, builtin, Sem.run_bind, Sem.run_pure, Result.andThen_ok, List.map_toArray, List.map_cons, List.map_nil, hs, hx, hrun]
  exact hK _ _ h

theorem owns_BAt {w : World} {base : Nat} {v : Value} {n : Nat} {xs : List Int} (h : w.ownsRow base 5 1 v n (By xs)) : ∃ ao c, v = .slice ao n c ∧ BAt w ao n xs ∧ (∀ a, ao = some a → base ≤ a.block ∧ v.ownBlock = some a.block ∧ a.off = 0 ∧ a.spot = none) ∧ (0 < n → ao ≠ none) := by
  have h' := h
  obtain ⟨h1, h2⟩ := h
  rw [By_length, Nat.mul_one] at h1
  rcases h2 with ⟨rfl, rfl⟩ | ⟨g, cap, cur, rfl, hg, hh, hnc, hm, hsz, ht⟩
  · exact ⟨none, 0, rfl, ⟨h1, fun h => by omega⟩, fun a e => (by cases e), fun h => by omega⟩
  · obtain ⟨g', cap', e, _, hlt, _, _, hcell⟩ := owns_bytes h' (by simp)
    cases e
    exact ⟨_, _, rfl, ⟨h1, fun _ => ⟨_, rfl, hlt, hcell⟩⟩, fun a e => (by cases e; exact ⟨hg, rfl, rfl, rfl⟩), fun _ => by simp⟩

/-- Block g holds n bytes at least, and may be written. -/
def Bytex (W : World) (g n : Nat) : Prop := ∃ cur, W.heap[g]? = some (.cells cur 5 (0, 0)) ∧ ∀ i, i < n → ∃ v : Int, cur[i]? = some (.int .u8 v)

theorem Bytex.at {W : World} {g n : Nat} (h : Bytex W g n) (i : Nat) (hi : i < n) : ∃ v : Int, W.cell? ⟨g, i, none⟩ = some (.int .u8 v) ∧ W.frozen? ⟨g, i, none⟩ = false := by
  obtain ⟨cur, hb, hc⟩ := h
  obtain ⟨v, hv⟩ := hc i hi
  exact ⟨v, by rw [blk_cell hb, hv], blk_free hb i⟩

theorem Bytex.set {W : World} {g n : Nat} (h : Bytex W g n) (i : Nat) (v : Int) : Bytex (W.setCell ⟨g, i, none⟩ (.int .u8 v)) g n := by
  obtain ⟨cur, hb, hc⟩ := h
  refine ⟨_, blk_set hb, fun j hj => ?_⟩
  by_cases e : i = j
  · subst e
    obtain ⟨u, hu⟩ := hc i hj
    have hlt : i < cur.size := (Array.getElem?_eq_some_iff.1 hu).1
    exact ⟨v, by simp [hlt]⟩
  · obtain ⟨u, hu⟩ := hc j hj
    exact ⟨u, by rw [Array.getElem?_setIfInBounds_ne e]; exact hu⟩

theorem owns_bytex {w : World} {base : Nat} {v : Value} {n : Nat} {xs : List Int} (h : w.ownsRow base 5 1 v n (By xs)) (g : Nat) (hg : v.ownBlock = some g) : Bytex w g n := by
  obtain ⟨h1, h2⟩ := h
  rcases h2 with h2 | ⟨g', cap, cur, rfl, _, hh, hnc, hm, hsz, ht⟩
  · rw [h2.1] at hg
    simp [Value.ownBlock] at hg
  · simp [Value.ownBlock] at hg
    subst hg
    rw [By_length] at h1
    refine ⟨cur, hh, fun i hi => ?_⟩
    have hi2 : i < xs.length := by omega
    refine ⟨xs[i], ?_⟩
    rw [← Array.getElem?_toList]
    have : cur.toList[i]? = (By xs)[i]? := by rw [← ht, List.getElem?_take, if_pos (by omega)]
    rw [this, By_get xs i hi2]
    simp [List.getD, List.getElem?_eq_getElem hi2]

theorem owns_block {w : World} {base : Nat} {a : Addr} {n c : Nat} {xs : List Value} (h : w.ownsRow base 5 1 (.slice (some a) n c) n xs) : (Value.slice (some a) n c).ownBlock = some a.block := by
  rcases h.2 with ⟨e, _⟩ | ⟨g, cap, cur, e, _⟩
  · cases e
  · cases e; rfl

theorem BAt.at {W : World} {ao : Option Addr} {n : Nat} {xs : List Int} (h : BAt W ao n xs) (i : Nat) (hi : i < n) : ∃ a, ao = some a ∧ W.cell? (a.add i) = some (.int .u8 (xs.getD i 0)) := by
  obtain ⟨a, e, _, hc⟩ := h.2 (by omega)
  exact ⟨a, e, hc i hi⟩

theorem BAt.drewN {W : World} {ao : Option Addr} {n : Nat} {xs : List Int} (h : BAt W ao n xs) (m : Nat) : BAt (W.drewN m) ao n xs := h

theorem refget_any (w : World) (ao : Option Addr) (n c : Nat) (xs : List Int) (h : BAt w ao n xs) (hx : ∀ x ∈ xs, 0 ≤ x ∧ x ≤ 255) (i : Int) (hi : I64 i) :
    Calls Try.prog 33 #[.slice ao n c, .int .i64 i] w fun e w' => e = .returned (.bool (getI xs i)) ∧ w' = w := by
  cases hh : hasI n i with
  | false =>
    rw [getI_no xs i (by rw [h.1]; exact hh)]
    exact refget_no w ao n c i hi hh
  | true =>
    have hh' := hh
    simp [hasI] at hh'
    obtain ⟨hi1, hi2⟩ := hi
    obtain ⟨q, rfl⟩ : ∃ q : Nat, i = q := ⟨i.toNat, by omega⟩
    simp only [Int.toNat_natCast] at hh'
    obtain ⟨a, rfl, hc⟩ := h.at (q / 8) hh'.2
    rw [getI_nat]
    exact refget_yes w a n c q _ hh'.2 (by omega) (getD_bound xs hx _) hc

/-- A row of bytes that is owned, behind a store of one of them. -/
theorem owns_set {w : World} {base g n cap : Nat} {xs : List Int} (h : w.ownsRow base 5 1 (.slice (some ⟨g, 0, none⟩) n cap) n (By xs)) (i : Nat) (y : Int) :
    (w.setCell ⟨g, i, none⟩ (.int .u8 y)).ownsRow base 5 1 (.slice (some ⟨g, 0, none⟩) n cap) n (By (xs.set i y)) := by
  obtain ⟨h1, h2⟩ := h
  refine ⟨by rw [By_length, List.length_set, ← By_length]; exact h1, ?_⟩
  rcases h2 with h2 | ⟨g', cap', cur, hv, hg, hh, hnc, hm, hsz, ht⟩
  · cases h2.1
  · cases hv
    refine .inr ⟨g, cap, cur.setIfInBounds i (.int .u8 y), rfl, hg, blk_set hh, hnc, hm, by simpa using hsz, ?_⟩
    rw [Array.toList_setIfInBounds, List.take_set, ht]
    simp [By]

theorem owns_cell {w : World} {base g n cap : Nat} {xs : List Int} (h : w.ownsRow base 5 1 (.slice (some ⟨g, 0, none⟩) n cap) n (By xs)) (i : Nat) (hi : i < n) :
    w.cell? ⟨g, i, none⟩ = some (.int .u8 (xs.getD i 0)) ∧ w.frozen? ⟨g, i, none⟩ = false ∧ base ≤ g := by
  obtain ⟨g', cap', e, hg, _, _, _, hc⟩ := owns_bytes h (by simp)
  cases e
  refine ⟨?_, ?_, hg⟩
  · have := hc i hi
    rwa [add_at, Nat.zero_add] at this
  · rcases h.2 with h2 | ⟨g', cap', cur, hv, _, hh, _⟩
    · cases h2.1
    · cases hv
      exact blk_free hh i

theorem append_nil_below (W : World) (ao : Option Addr) (n c : Nat) (xs : List Int) (h : BAt W ao n xs) (hbig : n ≤ 140737488355328) (hnone : ao = none → n = 0 ∧ c = 0) :
    ∃ v' W', (Builtin.append_ #[26, 26] 26 #[.slice none 0 0, .slice ao n c]).run Try.prog W = .ok v' W' ∧ W'.ownsRow W.heap.size 5 1 v' n (By xs) ∧ Below W.heap.size W W' := by
  obtain ⟨v', W', h1, h2, h3⟩ := append_nil_run W ao n c xs h hbig hnone
  exact ⟨v', W', h1, h2, (Below.refl _ W).grown h3 (Nat.le_refl _) (by simp)⟩

set_option maxHeartbeats 1000000 in
theorem refwith_yes (w : World) (a : Addr) (n c q : Nat) (on : Bool) (xs : List Int) (h : BAt w (some a) n xs) (hbig : n ≤ 140737488355328) (hq : q / 8 < n) :
    Calls Try.prog 32 #[.slice (some a) n c, .int .i64 q, .bool on] w fun e w' => ∃ v', e = .returned v' ∧ w'.ownsRow w.heap.size 5 1 v' n (By (xs.set (q / 8) (setB (xs.getD (q / 8) 0) q on))) ∧ Below w.heap.size w w' := by
  have hq2 : q < 9223372036854775808 := by omega
  have hq3 : (q : Int) / 8 < n := by omega
  obtain ⟨v', w', hrun, hown, hB⟩ := append_nil_below w (some a) n c xs h hbig (by simp)
  obtain ⟨g, cap, rfl, hg, -⟩ := owns_bytes hown (by rintro rfl; rcases hown.2 with h2 | ⟨_, _, _, h2, _⟩; omega; cases h2)
  obtain ⟨hc1, hc2, -⟩ := owns_cell hown (q / 8) hq
  obtain ⟨ga, hga⟩ : ∃ ga : Addr, ga = ⟨g, 0, none⟩ := ⟨_, rfl⟩
  have hadd : ga.add (q / 8) = ⟨g, q / 8, none⟩ := by rw [hga, add_at, Nat.zero_add]
  rw [← hadd] at hc1 hc2
  rw [← hga] at hown hrun
  obtain ⟨x, hxe⟩ : ∃ x, x = xs.getD (q / 8) 0 := ⟨_, rfl⟩
  rw [← hxe] at hc1
  have hw8 : IntKind.i64.wrap ((q : Int) / 8) = (q : Int) / 8 := by rw [IntKind.wrap_i64]; omega
  have h08 : (0 : Int) ≤ (q : Int) / 8 := by omega
  have ht8 : ((q : Int) / 8).toNat = q / 8 := by omega
  have hm : (2 : Int) ^ (q % 8) % 256 = maskN q := by
    have := maskN_bound q
    have e : (2 : Int) ^ (q % 8) = maskN q := by simp [maskN]
    rw [e]
    omega
  have fin1 : ∀ W : World, W.heap = (w'.setCell (ga.add (q / 8)) (.int .u8 (bits BinOp.andNot IntKind.u8 x (maskN q)))).heap → Below w.heap.size w' W → W.ownsRow w.heap.size 5 1 (.slice (some ga) n cap) n (By (xs.set (q / 8) (setB (xs.getD (q / 8) 0) q false))) ∧ Below w.heap.size w W := by
    intro W hW hBW
    refine ⟨?_, hB.trans hBW⟩
    subst hga
    have h2 := owns_set hown (q / 8) (bits BinOp.andNot IntKind.u8 x (maskN q))
    rw [← hadd] at h2
    rw [← hxe]
    exact owns_at h2 (fun k _ => by rw [hW])
  have fin2 : ∀ W : World, W.heap = ((w'.setCell (ga.add (q / 8)) (.int .u8 (bits BinOp.andNot IntKind.u8 x (maskN q)))).setCell (ga.add (q / 8)) (.int .u8 (bits BinOp.or IntKind.u8 (bits BinOp.andNot IntKind.u8 x (maskN q)) (maskN q)))).heap → Below w.heap.size w' W → W.ownsRow w.heap.size 5 1 (.slice (some ga) n cap) n (By (xs.set (q / 8) (setB (xs.getD (q / 8) 0) q true))) ∧ Below w.heap.size w W := by
    intro W hW hBW
    refine ⟨?_, hB.trans hBW⟩
    subst hga
    have h2 := owns_set (owns_set hown (q / 8) (bits BinOp.andNot IntKind.u8 x (maskN q))) (q / 8) (bits BinOp.or IntKind.u8 (bits BinOp.andNot IntKind.u8 x (maskN q)) (maskN q))
    rw [← hadd, List.set_set] at h2
    rw [← hxe]
    exact owns_at h2 (fun k _ => by rw [hW])
  have hgb : w.heap.size ≤ (ga.add (q / 8)).block := by rw [hadd]; exact hg
  have F1 := Hid.mk fin1
  have F2 := Hid.mk fin2
  have HGB := Hid.mk hgb
  have HR := Hid.mk hrun
  clear fin1 fin2 hgb hrun hown hB hga hadd hxe h hg
  cases on
  · go_enter Try.func32, Try.ntmps32
    go_wp2_with (at_builtin; refine wpList_append_known rfl _ _ 26 rfl (.slice none 0 0) (.slice (some a) n c) _ _ rfl rfl HR.out ?_)
    go_ret
    exact ⟨_, rfl, F1.out _ rfl ((Below.refl _ w').setCell HGB.out _)⟩
  · go_enter Try.func32, Try.ntmps32
    go_wp2_with (at_builtin; refine wpList_append_known rfl _ _ 26 rfl (.slice none 0 0) (.slice (some a) n c) _ _ rfl rfl HR.out ?_)
    go_ret
    exact ⟨_, rfl, F2.out _ rfl (((Below.refl _ w').setCell HGB.out _).setCell HGB.out _)⟩

set_option maxHeartbeats 1000000 in
theorem refwith_no (w : World) (ao : Option Addr) (n c : Nat) (i : Int) (hi : I64 i) (on : Bool) (xs : List Int) (h : BAt w ao n xs) (hnone : ao = none → n = 0 ∧ c = 0) (hbig : n ≤ 140737488355328) (hno : hasI n i = false) :
    Calls Try.prog 32 #[.slice ao n c, .int .i64 i, .bool on] w fun e w' => ∃ v', e = .returned v' ∧ w'.ownsRow w.heap.size 5 1 v' n (By xs) ∧ Below w.heap.size w w' := by
  obtain ⟨v', w', hrun, hown, hB⟩ := append_nil_below w ao n c xs h hbig hnone
  have HR := Hid.mk hrun
  have HO := Hid.mk hown
  have HB := Hid.mk hB
  obtain ⟨hi1, hi2⟩ := hi
  clear hrun hown hB h hnone
  by_cases h0 : 0 ≤ i
  · obtain ⟨q, rfl⟩ : ∃ q : Nat, i = q := ⟨i.toNat, by omega⟩
    rw [hasI_nat] at hno
    simp at hno
    have hno2 : (n : Int) ≤ (q : Int) / 8 := by omega
    go_enter Try.func32, Try.ntmps32
    go_wp2_with (at_builtin; refine wpList_append_known rfl _ _ 26 rfl (.slice none 0 0) (.slice ao n c) _ _ rfl rfl HR.out ?_)
    go_ret
    exact ⟨_, rfl, HO.out, HB.out⟩
  · clear hno
    go_enter Try.func32, Try.ntmps32
    go_wp2_with (at_builtin; refine wpList_append_known rfl _ _ 26 rfl (.slice none 0 0) (.slice ao n c) _ _ rfl rfl HR.out ?_)
    go_ret
    exact ⟨_, rfl, HO.out, HB.out⟩

theorem refwith_any (w : World) (ao : Option Addr) (n c : Nat) (i : Int) (hi : I64 i) (on : Bool) (xs : List Int) (h : BAt w ao n xs) (hnone : ao = none → n = 0 ∧ c = 0) (hbig : n ≤ 140737488355328) :
    Calls Try.prog 32 #[.slice ao n c, .int .i64 i, .bool on] w fun e w' => ∃ v', e = .returned v' ∧ w'.ownsRow w.heap.size 5 1 v' n (By (withI xs i on)) ∧ Below w.heap.size w w' := by
  cases hh : hasI n i with
  | false =>
    rw [show withI xs i on = xs from by unfold withI; rw [h.1, hh]; simp]
    exact refwith_no w ao n c i hi on xs h hnone hbig hh
  | true =>
    have hh' := hh
    simp [hasI] at hh'
    obtain ⟨hi1, hi2⟩ := hi
    obtain ⟨q, rfl⟩ : ∃ q : Nat, i = q := ⟨i.toNat, by omega⟩
    simp only [Int.toNat_natCast] at hh'
    obtain ⟨a, rfl, _⟩ := h.at (q / 8) hh'.2
    rw [show withI xs (q : Int) on = xs.set (q / 8) (setB (xs.getD (q / 8) 0) q on) from by unfold withI; rw [h.1, if_pos hh]; rfl]
    exact refwith_yes w a n c q on xs h hbig hh'.2
end Go.Proofs.Ytebeejmpnkdllaa
