/-
  Rows of bytes in memory: what they hold, what make, append and string do with them.
-/
import Derived.Test.YtbahbhaoimabdaaBits
import Derived.BigQuiet
import Derived.Deep.QuietTactic
import Derived.Deep.RegionWith
namespace Go.Proofs.Ytbahbhaoimabdaa
open Go Go.Proofs Go.RowKit
theorem info5 : (Try.prog.info? 5).map (fun i => (i.zero, i.size, i.bytes)) = some (some (.int .u8 0), 1, 1) := by kernel_rfl
theorem info5p : ∃ i0, Try.prog.info? 5 = some i0 ∧ i0.zero = some (.int .u8 0) ∧ i0.size = 1 ∧ i0.bytes = 1 := by
  obtain ⟨i0, hi, hz0, hz1, hz2⟩ := info_parts info5
  exact ⟨i0, hi, hz0, hz1, hz2⟩
/-! rows of bytes -/
/-- A slice of bytes as it lies in a world: its bytes where there is one. -/
def BAt (W : World) (ao : Option Addr) (n : Nat) (xs : List Int) : Prop :=
  xs.length = n ∧ (0 < n → ∃ a, ao = some a ∧ a.block < W.heap.size ∧ ∀ i, i < n → W.cell? (a.add i) = some (.int .u8 (xs.getD i 0)))
theorem add_block (a : Addr) (i : Nat) : (a.add i).block = a.block := by unfold Addr.add; split <;> rfl
set_option maxRecDepth 100000 in
theorem BAt.only {S : Nat → Prop} {W W' : World} {ao : Option Addr} {n : Nat} {xs : List Int} (h : BAt W ao n xs) (ho : Only S W W') (hS : ∀ a, ao = some a → a.block < W.heap.size → ¬ S a.block) : BAt W' ao n xs := by
  refine ⟨h.1, fun hn => ?_⟩
  obtain ⟨a, e, hlt, hc⟩ := h.2 hn
  refine ⟨a, e, Nat.lt_of_lt_of_le hlt ho.size, fun i hi => ?_⟩
  rw [World.cell?_of_block (w := W) (by rw [add_block]; exact ho.block _ hlt (hS a e hlt))]
  exact hc i hi
set_option maxRecDepth 100000 in
/-- 'string(b)'. -/
theorem conv_bytes (W : World) (ao : Option Addr) (n c : Nat) (xs : List Int) (h : BAt W ao n xs) : (convert 42 9 (.slice ao n c)).run Try.prog W = .ok (.string (strOfNums xs)) W := by
  rw [run_convert_bytes_string W 42 9 5 ao n c Try.underlying42 Try.underlying5 Try.underlying9]
  rcases Nat.eq_zero_or_pos n with h0 | h0
  · subst h0
    obtain rfl : xs = [] := List.eq_nil_of_length_eq_zero h.1
    cases ao <;> simp [Conv.bytesToString, loadCells, strOfNums]
    all_goals rfl
  · obtain ⟨a, rfl, hlt, hc⟩ := h.2 h0
    have hl : (loadCells a n).run Try.prog W = .ok (xs.map (Value.int .u8)).toArray W := by
      have := run_loadCells_list (P := Try.prog) W a (By xs) (fun j v hj => by
        have hjl := (List.getElem?_eq_some_iff.1 hj).1
        rw [By_length] at hjl
        rw [By_get xs j hjl] at hj
        rw [hc j (by rw [← h.1]; exact hjl)]
        exact hj)
      rw [By_length, h.1] at this
      exact this
    rw [run_bytesToString W a n c xs hl, foldl_push_bytes]
    simp [strOfNums, ByteArray.empty, ByteArray.emptyWithCapacity]
    rfl
set_option maxRecDepth 100000 in
/-- 'append([]byte(nil), b...)'. -/
theorem append_nil_run (W : World) (ao : Option Addr) (n c : Nat) (xs : List Int) (h : BAt W ao n xs) (hbig : n ≤ 140737488355328) (hnone : ao = none → n = 0 ∧ c = 0) :
    ∃ v' W', (Builtin.append_ #[42, 42] 42 #[.slice none 0 0, .slice ao n c]).run Try.prog W = .ok v' W' ∧ W'.ownsRow W.heap.size 5 1 v' n (By xs) ∧ W.grownBy W' none := by
  obtain ⟨i0, hi, hz0, hz1, hz2⟩ := info5p
  cases ao with
  | none =>
    obtain ⟨rfl, rfl⟩ := hnone rfl
    obtain rfl : xs = [] := List.eq_nil_of_length_eq_zero h.1
    exact ⟨.slice none 0 0, W, run_append_owned_none (P := Try.prog) W W.heap.size 42 42 5 i0 1 Try.underlying42 hi (.slice none 0 0) 0 [] (World.ownsRow_nil W _ 5 1), World.ownsRow_nil W _ 5 1, World.grownBy.refl _ _⟩
  | some a =>
    obtain ⟨v', w', hr, h2, h3, _⟩ := run_append_own (P := Try.prog) W W.heap.size 42 42 5 i0 (.int .u8 0) 1 1 Try.underlying42 hi hz0 hz1 hz2 rfl (by decide) (.slice none 0 0) 0 [] (World.ownsRow_nil W _ 5 1) a n c (By xs) (by rw [By_length, h.1, Nat.mul_one]) (fun j u hj => by
      have hjl := (List.getElem?_eq_some_iff.1 hj).1
      rw [By_length] at hjl
      rw [By_get xs j hjl] at hj
      obtain ⟨a', e, hlt, hc⟩ := h.2 (by have := h.1; omega)
      cases e
      rw [hc j (by rw [← h.1]; exact hjl)]
      exact hj) (By_one xs) (by unfold maxLen; omega) (by omega) (Nat.le_refl _)
    exact ⟨v', w', hr, by simpa using h2, h3⟩
set_option maxRecDepth 100000 in
/-- append whose run is known. -/
theorem wpList_append_known {P : Program} {w : World} {ops : Array Oper} {rest : List Oper} {o : Oper} {a : Act} {Q : Exit → Act → World → Prop} (hgd : o.guard = none) (s x : Operand) (t : TypeId)
    (ho : o.op = .call { callee := .builtin .append, args := #[s, x], argTypes := #[t, t] }) (v vx v' : Value) (w' : World) (hs : a.eval s = v) (hx : a.eval x = vx)
    (hrun : (Builtin.append_ #[t, t] o.type #[v, vx]).run P w = .ok v' w') (h : wpList P ops Q rest (a.put o.dst v') w') : wpList P ops Q (o :: rest) a w := by
  refine wpList_plain hgd fun K hK => ?_
  unfold Oper.wp execOp
  simp only [ho, resolve, invoke, builtin, Sem.run_bind, Sem.run_pure, Result.andThen_ok, List.map_toArray, List.map_cons, List.map_nil, hs, hx, hrun]
  exact hK _ _ h
set_option maxRecDepth 100000 in
theorem owns_BAt {w : World} {base : Nat} {v : Value} {n : Nat} {xs : List Int} (h : w.ownsRow base 5 1 v n (By xs)) : ∃ ao c, v = .slice ao n c ∧ BAt w ao n xs ∧ (∀ a, ao = some a → base ≤ a.block ∧ v.ownBlock = some a.block ∧ a.off = 0 ∧ a.spot = none) ∧ (0 < n → ao ≠ none) := by
  have h' := h
  obtain ⟨h1, h2⟩ := h
  rw [By_length, Nat.mul_one] at h1
  rcases h2 with ⟨rfl, rfl⟩ | ⟨g, cap, cur, rfl, hg, hh, hnc, hm, hsz, ht⟩
  · exact ⟨none, 0, rfl, ⟨h1, fun h => by omega⟩, fun a e => (by cases e), fun h => by omega⟩
  · obtain ⟨g', cap', e, _, hlt, _, _, hcell⟩ := owns_bytes h' (by simp)
    cases e
    exact ⟨_, _, rfl, ⟨h1, fun _ => ⟨_, rfl, hlt, hcell⟩⟩, fun a e => (by cases e; exact ⟨hg, rfl, rfl, rfl⟩), fun _ => by simp⟩
/-- Block g holds n bytes at least, and may be written. -/
def Bytex (W : World) (g n : Nat) : Prop := ∃ cur, W.heap[g]? = some (.cells cur 5 (0, 0)) ∧ ∀ i, i < n → ∃ v : Int, cur[i]? = some (.int .u8 v)
theorem Bytex.at {W : World} {g n : Nat} (h : Bytex W g n) (i : Nat) (hi : i < n) : ∃ v : Int, W.cell? ⟨g, i, none⟩ = some (.int .u8 v) ∧ W.frozen? ⟨g, i, none⟩ = false := by
  obtain ⟨cur, hb, hc⟩ := h
  obtain ⟨v, hv⟩ := hc i hi
  exact ⟨v, by rw [blk_cell hb, hv], blk_free hb i⟩
set_option maxRecDepth 100000 in
theorem Bytex.set {W : World} {g n : Nat} (h : Bytex W g n) (i : Nat) (v : Int) : Bytex (W.setCell ⟨g, i, none⟩ (.int .u8 v)) g n := by
  obtain ⟨cur, hb, hc⟩ := h
  refine ⟨_, blk_set hb, fun j hj => ?_⟩
  by_cases e : i = j
  · subst e
    obtain ⟨u, hu⟩ := hc i hj
    have hlt : i < cur.size := (Array.getElem?_eq_some_iff.1 hu).1
    exact ⟨v, by simp [hlt]⟩
  · obtain ⟨u, hu⟩ := hc j hj
    exact ⟨u, by rw [Array.getElem?_setIfInBounds_ne e]; exact hu⟩
set_option maxRecDepth 100000 in
theorem owns_bytex {w : World} {base : Nat} {v : Value} {n : Nat} {xs : List Int} (h : w.ownsRow base 5 1 v n (By xs)) (g : Nat) (hg : v.ownBlock = some g) : Bytex w g n := by
  obtain ⟨h1, h2⟩ := h
  rcases h2 with h2 | ⟨g', cap, cur, rfl, _, hh, hnc, hm, hsz, ht⟩
  · rw [h2.1] at hg
    simp [Value.ownBlock] at hg
  · simp [Value.ownBlock] at hg
    subst hg
    rw [By_length] at h1
    refine ⟨cur, hh, fun i hi => ?_⟩
    have hi2 : i < xs.length := by omega
    refine ⟨xs[i], ?_⟩
    rw [← Array.getElem?_toList]
    have : cur.toList[i]? = (By xs)[i]? := by rw [← ht, List.getElem?_take, if_pos (by omega)]
    rw [this, By_get xs i hi2]
    simp [List.getD, List.getElem?_eq_getElem hi2]
theorem owns_block {w : World} {base : Nat} {a : Addr} {n c : Nat} {xs : List Value} (h : w.ownsRow base 5 1 (.slice (some a) n c) n xs) : (Value.slice (some a) n c).ownBlock = some a.block := by
  rcases h.2 with ⟨e, _⟩ | ⟨g, cap, cur, e, _⟩
  · cases e
  · cases e; rfl
theorem BAt.at {W : World} {ao : Option Addr} {n : Nat} {xs : List Int} (h : BAt W ao n xs) (i : Nat) (hi : i < n) : ∃ a, ao = some a ∧ W.cell? (a.add i) = some (.int .u8 (xs.getD i 0)) := by
  obtain ⟨a, e, _, hc⟩ := h.2 (by omega)
  exact ⟨a, e, hc i hi⟩
theorem BAt.drewN {W : World} {ao : Option Addr} {n : Nat} {xs : List Int} (h : BAt W ao n xs) (m : Nat) : BAt (W.drewN m) ao n xs := h
set_option maxRecDepth 100000 in
/-- A row of bytes that is owned, behind a store of one of them. -/
theorem owns_set {w : World} {base g n cap : Nat} {xs : List Int} (h : w.ownsRow base 5 1 (.slice (some ⟨g, 0, none⟩) n cap) n (By xs)) (i : Nat) (y : Int) :
    (w.setCell ⟨g, i, none⟩ (.int .u8 y)).ownsRow base 5 1 (.slice (some ⟨g, 0, none⟩) n cap) n (By (xs.set i y)) := by
  obtain ⟨h1, h2⟩ := h
  refine ⟨by rw [By_length, List.length_set, ← By_length]; exact h1, ?_⟩
  rcases h2 with h2 | ⟨g', cap', cur, hv, hg, hh, hnc, hm, hsz, ht⟩
  · cases h2.1
  · cases hv
    refine .inr ⟨g, cap, cur.setIfInBounds i (.int .u8 y), rfl, hg, blk_set hh, hnc, hm, by simpa using hsz, ?_⟩
    rw [Array.toList_setIfInBounds, List.take_set, ht]
    simp [By]
set_option maxRecDepth 100000 in
theorem owns_cell {w : World} {base g n cap : Nat} {xs : List Int} (h : w.ownsRow base 5 1 (.slice (some ⟨g, 0, none⟩) n cap) n (By xs)) (i : Nat) (hi : i < n) :
    w.cell? ⟨g, i, none⟩ = some (.int .u8 (xs.getD i 0)) ∧ w.frozen? ⟨g, i, none⟩ = false ∧ base ≤ g := by
  obtain ⟨g', cap', e, hg, _, _, _, hc⟩ := owns_bytes h (by simp)
  cases e
  refine ⟨?_, ?_, hg⟩
  · have := hc i hi
    rwa [add_at, Nat.zero_add] at this
  · rcases h.2 with h2 | ⟨g', cap', cur, hv, _, hh, _⟩
    · cases h2.1
    · cases hv
      exact blk_free hh i
set_option maxRecDepth 100000 in
theorem append_nil_below (W : World) (ao : Option Addr) (n c : Nat) (xs : List Int) (h : BAt W ao n xs) (hbig : n ≤ 140737488355328) (hnone : ao = none → n = 0 ∧ c = 0) :
    ∃ v' W', (Builtin.append_ #[42, 42] 42 #[.slice none 0 0, .slice ao n c]).run Try.prog W = .ok v' W' ∧ W'.ownsRow W.heap.size 5 1 v' n (By xs) ∧ Below W.heap.size W W' := by
  obtain ⟨v', W', h1, h2, h3⟩ := append_nil_run W ao n c xs h hbig hnone
  exact ⟨v', W', h1, h2, (Below.refl _ W).grown h3 (Nat.le_refl _) (by simp)⟩
def zeros (n : Nat) : List Int := List.replicate n 0
theorem zeros_length (n : Nat) : (zeros n).length = n := by simp [zeros]
theorem zeros_bound (n : Nat) : ∀ x ∈ zeros n, 0 ≤ x ∧ x ≤ 255 := by
  intro x hx
  have := List.eq_of_mem_replicate hx
  omega
set_option maxRecDepth 100000 in
theorem wpList_appendz_known {P : Program} {w : World} {ops : Array Oper} {rest : List Oper} {o : Oper} {a : Act} {Q : Exit → Act → World → Prop} (hgd : o.guard = none) (s x : Operand) (t u : TypeId)
    (ho : o.op = .call { callee := .builtin .append, args := #[s, x], argTypes := #[t, u] }) (v vx v' : Value) (w' : World) (hs : a.eval s = v) (hx : a.eval x = vx)
    (hrun : (Builtin.append_ #[t, u] o.type #[v, vx]).run P w = .ok v' w') (h : wpList P ops Q rest (a.put o.dst v') w') : wpList P ops Q (o :: rest) a w := by
  refine wpList_plain hgd fun K hK => ?_
  unfold Oper.wp execOp
  simp only [ho, resolve, invoke, builtin, Sem.run_bind, Sem.run_pure, Result.andThen_ok, List.map_toArray, List.map_cons, List.map_nil, hs, hx, hrun]
  exact hK _ _ h
set_option maxRecDepth 100000 in
theorem exec_convert {P : Program} {ev : Operand → Value} {oi : Oper} {t u : TypeId} {x : Operand} {v v' : Value} {w w' : World} (ho : oi.op = .convert t u x) (hx : ev x = v) (h : (convert t u v).run P w = .ok v' w') : (execOp ev oi).run P w = .ok (.value v') w' := by
  unfold execOp
  rw [ho]
  simp only [Sem.run_bind, hx, h, Result.andThen_ok]
  rfl
set_option maxRecDepth 100000 in
/-- make([]byte, n). -/
theorem make_run (w : World) (n : Nat) (hn : n ≤ 16777216) : (Instr.makeSlice 42 (.int .i64 n) (.int .i64 n)).run Try.prog w = .ok (.slice (some ⟨w.heap.size, 0, none⟩) n n) (w.alloc (.cells (By (zeros n)).toArray 5)) := by
  obtain ⟨i0, hi, hz0, hz1, hz2⟩ := info5p
  rw [run_makeSlice (P := Try.prog) w 42 5 i0 (.int .u8 0) Try.underlying42 hi hz0 .i64 .i64 n n (by omega) (by omega) (by rw [hz1]; simp; omega) (by rw [hz2]; omega) (by omega)]
  have e : madeCells (Value.int .u8 0).cells ((n : Int).toNat * i0.size) = (By (zeros n)).toArray := by
    rw [hz1]
    apply Array.ext'
    rw [show (By (zeros n)).toArray.toList = List.replicate n (Value.int .u8 0) by simp [By, zeros], List.eq_replicate_iff]
    simp [madeCells, Value.cells, Nat.mod_one]
  rw [e]
  simp
set_option maxRecDepth 100000 in
theorem wpList_make_known {P : Program} {w : World} {ops : Array Oper} {rest : List Oper} {o : Oper} {a : Act} {Q : Exit → Act → World → Prop} (hgd : o.guard = none) (l c : Operand) (t : TypeId)
    (ho : o.op = .makeSlice t l c) (vl vc v' : Value) (w' : World) (hl : a.eval l = vl) (hc : a.eval c = vc)
    (hrun : (Instr.makeSlice t vl vc).run P w = .ok v' w') (h : wpList P ops Q rest (a.put o.dst v') w') : wpList P ops Q (o :: rest) a w := by
  refine wpList_plain hgd fun K hK => ?_
  unfold Oper.wp execOp
  simp only [ho, Sem.run_bind, Sem.run_pure, Result.andThen_ok, hl, hc, hrun]
  exact hK _ _ h
set_option maxRecDepth 100000 in
theorem wpList_copy_known {P : Program} {w : World} {ops : Array Oper} {rest : List Oper} {o : Oper} {a : Act} {Q : Exit → Act → World → Prop} (hgd : o.guard = none) (d s : Operand) (dT sT : TypeId)
    (ho : o.op = .call { callee := .builtin .copy, args := #[d, s], argTypes := #[dT, sT] }) (v vx v' : Value) (w' : World) (hs : a.eval d = v) (hx : a.eval s = vx)
    (hrun : (Builtin.copy_ #[dT, sT] o.type #[v, vx]).run P w = .ok v' w') (h : wpList P ops Q rest (a.put o.dst v') w') : wpList P ops Q (o :: rest) a w := by
  refine wpList_plain hgd fun K hK => ?_
  unfold Oper.wp execOp
  simp only [ho, resolve, invoke, builtin, Sem.run_bind, Sem.run_pure, Result.andThen_ok, List.map_toArray, List.map_cons, List.map_nil, hs, hx, hrun]
  exact hK _ _ h
/-- Block g is a row of these bytes. -/
def RAt (W : World) (g : Nat) (xs : List Int) : Prop := W.heap[g]? = some (.cells (By xs).toArray 5 (0, 0))
theorem RAt.lt {W : World} {g : Nat} {xs : List Int} (h : RAt W g xs) : g < W.heap.size := lt_of_block h
theorem RAt.bat {W : World} {g : Nat} {xs : List Int} (h : RAt W g xs) (o n : Nat) (hn : o + n ≤ xs.length) : BAt W (some ⟨g, o, none⟩) n ((xs.drop o).take n) := by
  refine ⟨by simp; omega, fun _ => ⟨_, rfl, h.lt, fun i hi => ?_⟩⟩
  rw [bytes_at h o i (by omega)]
  simp [List.getD, hi]
theorem RAt.below {W W' : World} {g B : Nat} {xs : List Int} (h : RAt W g xs) (hb : Below B W W') (hg : g < B) : RAt W' g xs := by
  unfold RAt
  rw [hb.block g hg]
  exact h
set_option maxRecDepth 100000 in
theorem splice_zero (n : Nat) (ys zs : List Int) (k : Nat) (hk : ys.length = k) (hn : k + zs.length ≤ n) : splice (ys ++ zeros (n - k)) k zs = (ys ++ zs) ++ zeros (n - (k + zs.length)) := by
  subst hk
  have e : (zeros (n - ys.length)).drop zs.length = zeros (n - (ys.length + zs.length)) := by
    simp [zeros]; omega
  unfold splice
  rw [List.take_left, List.drop_append, List.drop_of_length_le (by omega)]
  simp [e]
set_option maxRecDepth 100000 in
theorem str_inj (xs ys : List Int) (hx : ∀ x ∈ xs, 0 ≤ x ∧ x ≤ 255) (hy : ∀ x ∈ ys, 0 ≤ x ∧ x ≤ 255) (h : strOfNums xs = strOfNums ys) : xs = ys := by
  have h1 : xs.map (fun n => UInt8.ofNat n.toNat) = ys.map (fun n => UInt8.ofNat n.toNat) := by
    have := congrArg (fun s : ByteArray => s.data.toList) h
    simpa [strOfNums] using this
  have inj : ∀ zs : List Int, (∀ x ∈ zs, 0 ≤ x ∧ x ≤ 255) → (zs.map (fun n => UInt8.ofNat n.toNat)).map (fun u => (u.toNat : Int)) = zs := by
    intro zs hz
    rw [List.map_map]
    conv => rhs; rw [← List.map_id zs]
    apply List.map_congr_left
    intro x hx
    have := hz x hx
    simp
    omega
  rw [← inj xs hx, ← inj ys hy, h1]
/-- Are two rows of bytes equal? -/
def eqB (xs ys : List Int) : Bool := decide (xs = ys)
set_option maxRecDepth 100000 in
theorem str_eqB (xs ys : List Int) (hx : ∀ x ∈ xs, 0 ≤ x ∧ x ≤ 255) (hy : ∀ x ∈ ys, 0 ≤ x ∧ x ≤ 255) : ((strOfNums xs).toList == (strOfNums ys).toList) = eqB xs ys := by
  rw [ByteArray.toList_eq, ByteArray.toList_eq]
  unfold eqB
  by_cases h : xs = ys
  · subst h
    simp
  · rw [decide_eq_false h]
    simp only [beq_eq_false_iff_ne, ne_eq]
    intro e
    refine h (str_inj xs ys hx hy ?_)
    unfold strOfNums at e ⊢
    simp at e
    rw [e]
set_option maxRecDepth 100000 in
theorem BAt.slice {W : World} {a : Addr} {n : Nat} {xs : List Int} (h : BAt W (some a) n xs) (o : Nat) (ho : 0 < o) (hn : o ≤ n) : BAt W (some ⟨a.block, a.off + o, none⟩) (n - o) (xs.drop o) := by
  refine ⟨by simp [h.1], fun hp => ?_⟩
  obtain ⟨a', e, hlt, hc⟩ := h.2 (by omega)
  cases e
  refine ⟨_, rfl, hlt, fun i hi => ?_⟩
  have h2 := hc (o + i) (by omega)
  rw [show a.add (o + i) = (⟨a.block, a.off + o, none⟩ : Addr).add i from by
    rw [add_at]; unfold Addr.add; rw [if_neg (by omega), Nat.add_assoc]] at h2
  rw [h2]
  simp [List.getD]
theorem drop_bound (xs : List Int) (h : ∀ x ∈ xs, 0 ≤ x ∧ x ≤ 255) (o : Nat) : ∀ x ∈ xs.drop o, 0 ≤ x ∧ x ≤ 255 := fun x hx => h x (List.mem_of_mem_drop hx)
theorem take_bound (xs : List Int) (h : ∀ x ∈ xs, 0 ≤ x ∧ x ≤ 255) (o : Nat) : ∀ x ∈ xs.take o, 0 ≤ x ∧ x ≤ 255 := fun x hx => h x (List.mem_of_mem_take hx)
section
variable {P : Program} {ops : Array Oper} {Q : Exit → Act → World → Prop} {md : Region.Mode} {S : World → Prop} {fuel : Nat} {listed : Array Bool} {t : Array Value} {w : World}
set_option maxRecDepth 100000 in
/-- Two operations may come up. -/
theorem stepH_two (i j : Nat) (hr : Region.ready md ops listed = [i, j])
    (h1 : wpOp P ops Q i (fun a' w' => S w' ∧ wpAnyH P md ops Q S fuel (listed.setIfInBounds i true) a' w') { tmps := t, defers := [] } w)
    (h2 : wpOp P ops Q j (fun a' w' => S w' ∧ wpAnyH P md ops Q S fuel (listed.setIfInBounds j true) a' w') { tmps := t, defers := [] } w) : wpAnyH P md ops Q S (fuel + 1) listed { tmps := t, defers := [] } w := by
  refine wpAnyH_all hr (by simp) (fun k hk => ?_)
  rcases List.mem_cons.1 hk with rfl | hk
  · exact h1
  · obtain rfl : k = j := by simpa using hk
    exact h2
set_option maxRecDepth 100000 in
theorem stepH_one (i : Nat) (hr : Region.ready md ops listed = [i])
    (h1 : wpOp P ops Q i (fun a' w' => S w' ∧ wpAnyH P md ops Q S fuel (listed.setIfInBounds i true) a' w') { tmps := t, defers := [] } w) : wpAnyH P md ops Q S (fuel + 1) listed { tmps := t, defers := [] } w := by
  refine wpAnyH_all hr (by simp) (fun k hk => ?_)
  obtain rfl : k = i := by simpa using hk
  exact h1
set_option maxRecDepth 100000 in
theorem opH_run (i d : Nat) (v : Value) (w' : World) {oi : Oper} (hi : ops[i]? = some oi) (hd : oi.dst = some d) (hw : Region.wanted oi (yielded ops t) = true)
    (hrun : (execOp (Act.eval { tmps := t, defers := [] }) oi).run P w = .ok (.value v) w') (hS : S w')
    (h : wpAnyH P md ops Q S fuel (listed.setIfInBounds i true) { tmps := t.setIfInBounds d v, defers := [] } w') : wpOp P ops Q i (fun a' w' => S w' ∧ wpAnyH P md ops Q S fuel (listed.setIfInBounds i true) a' w') { tmps := t, defers := [] } w := by
  unfold wpOp
  rw [hi]
  dsimp only
  rw [if_pos hw]
  left
  unfold Oper.wp
  rw [hrun, Oper.upon_value, show (Act.put { tmps := t, defers := [] } oi.dst v) = { tmps := t.setIfInBounds d v, defers := [] } from by simp [Act.put, hd]]
  exact ⟨hS, h⟩
set_option maxRecDepth 100000 in
/-- An operation that leaves nothing in a slot: a store. -/
theorem opH_store (i : Nat) (w' : World) {oi : Oper} (hi : ops[i]? = some oi) (hd : oi.dst = none) (hw : Region.wanted oi (yielded ops t) = true)
    (hrun : (execOp (Act.eval { tmps := t, defers := [] }) oi).run P w = .ok .skip w') (hS : S w')
    (h : wpAnyH P md ops Q S fuel (listed.setIfInBounds i true) { tmps := t, defers := [] } w') : wpOp P ops Q i (fun a' w' => S w' ∧ wpAnyH P md ops Q S fuel (listed.setIfInBounds i true) a' w') { tmps := t, defers := [] } w := by
  unfold wpOp
  rw [hi]
  dsimp only
  rw [if_pos hw]
  left
  unfold Oper.wp
  rw [hrun, Oper.upon_skip, show (Act.put { tmps := t, defers := [] } oi.dst undef) = { tmps := t, defers := [] } from by simp [Act.put, hd]]
  exact ⟨hS, h⟩
set_option maxRecDepth 100000 in
theorem opH_call (i d : Nat) {oi : Oper} (hi : ops[i]? = some oi) (hd : oi.dst = some d) (hw : Region.wanted oi (yielded ops t) = true)
    (f : Nat) (xs : Array Operand) (tys : Array TypeId) (hop : oi.op = Op.call { callee := .value (.func f), args := xs, argTypes := tys })
    (eg : ∀ vs w, (callFunc f vs).run P w = .ok (.enter f vs) w) (vs : Array Value) (hvs : xs.map (Act.eval { tmps := t, defers := [] }) = vs)
    {R : Ending → World → Prop} (hc : Calls P f vs w R)
    (h : ∀ e w', R e w' → ∃ u, e = .returned u ∧ S w' ∧ wpAnyH P md ops Q S fuel (listed.setIfInBounds i true) { tmps := t.setIfInBounds d u, defers := [] } w') : wpOp P ops Q i (fun a' w' => S w' ∧ wpAnyH P md ops Q S fuel (listed.setIfInBounds i true) a' w') { tmps := t, defers := [] } w := by
  unfold wpOp
  rw [hi]
  dsimp only
  rw [if_pos hw]
  left
  have hrun : (execOp (Act.eval { tmps := t, defers := [] }) oi).run P w = .ok (.enter f vs) w := by
    subst hvs
    simp [execOp, hop, resolve, invoke, Act.eval, go_sem, eg]
  unfold Oper.wp
  rw [hrun, Oper.upon_enter]
  refine hc.mono ?_
  intro e w' hr
  obtain ⟨u, rfl, h1, h2⟩ := h e w' hr
  show S w' ∧ wpAnyH P md ops Q S fuel (listed.setIfInBounds i true) (Act.put { tmps := t, defers := [] } oi.dst u) w'
  rw [show (Act.put { tmps := t, defers := [] } oi.dst u) = { tmps := t.setIfInBounds d u, defers := [] } from by simp [Act.put, hd]]
  exact ⟨h1, h2⟩
end
set_option maxRecDepth 100000 in
theorem exec_store {P : Program} {ev : Operand → Value} {oi : Oper} {t : TypeId} {p x : Operand} {v u : Value} {w w' : World} (ho : oi.op = .store t p x) (hp : ev p = v) (hx : ev x = u) (h : (Instr.storeAt t v u).run P w = .ok () w') : (execOp ev oi).run P w = .ok .skip w' := by
  unfold execOp
  rw [ho]
  simp only [Sem.run_bind, hp, hx, h, Result.andThen_ok]
  rfl
theorem RAt.full {W : World} {g n : Nat} {xs : List Int} (h : RAt W g xs) (hl : xs.length = n) : BAt W (some ⟨g, 0, none⟩) n xs := by
  have h := h.bat 0 n (by omega)
  rwa [List.drop_zero, List.take_of_length_le (by omega)] at h
theorem mul_fits {a b A B : Int} (h0 : 0 ≤ a) (h1 : a ≤ A) (h2 : 0 ≤ b) (h3 : b ≤ B) : 0 ≤ a * b ∧ a * b ≤ A * B :=
  ⟨Int.mul_nonneg h0 h2, Int.le_trans (Int.mul_le_mul_of_nonneg_right h1 h2) (Int.mul_le_mul_of_nonneg_left h3 (by omega))⟩
end Go.Proofs.Ytbahbhaoimabdaa
