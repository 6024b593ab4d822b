/-
  Bytes: string(b), append([]byte(nil), b...), rows that may be written: plain laws at this program; Read whatever the disk.
-/
import Derived.Test.YtochgjajlojfeaaAlive
import Derived.Laws.BytesArg
import Derived.Laws.AppendOwnNone
namespace Go.Proofs.Ytochgjajlojfeaa
open Go Go.Proofs Go.RowKit Go.Shelf

/-- A slice of bytes as it lies in a world: its bytes where there is one. -/
def BAt (W : World) (ao : Option Addr) (n : Nat) (xs : List Int) : Prop :=
  xs.length = n ∧ (0 < n → ∃ a, ao = some a ∧ a.block < W.heap.size ∧ ∀ i, i < n → W.cell? (a.add i) = some (.int .u8 (xs.getD i 0)))

theorem add_block (a : Addr) (i : Nat) : (a.add i).block = a.block := by unfold Addr.add; split <;> rfl

theorem BAt.only {S : Nat → Prop} {W W' : World} {ao : Option Addr} {n : Nat} {xs : List Int} (h : BAt W ao n xs) (ho : Only S W W') (hS : ∀ a, ao = some a → a.block < W.heap.size → ¬ S a.block) : BAt W' ao n xs := by
  refine ⟨h.1, fun hn => ?_⟩
  obtain ⟨a, e, hlt, hc⟩ := h.2 hn
  refine ⟨a, e, Nat.lt_of_lt_of_le hlt ho.size, fun i hi => ?_⟩
  rw [World.cell?_of_block (w := W) (by rw [add_block]; exact ho.block _ hlt (hS a e hlt))]
  exact hc i hi

/-- 'string(b)'. -/
theorem conv_bytes (W : World) (ao : Option Addr) (n c : Nat) (xs : List Int) (h : BAt W ao n xs) : (convert 27 9 (.slice ao n c)).run Try.prog W = .ok (.string (strOfNums xs)) W := by
  rw [run_convert_bytes_string W 27 9 5 ao n c Try.underlying27 Try.underlying5 Try.underlying9]
  rcases Nat.eq_zero_or_pos n with h0 | h0
  · subst h0
    obtain rfl : xs = [] := List.eq_nil_of_length_eq_zero h.1
    cases ao <;> simp [Conv.bytesToString, loadCells, strOfNums]
    all_goals rfl
  · obtain ⟨a, rfl, hlt, hc⟩ := h.2 h0
    have hl : (loadCells a n).run Try.prog W = .ok (xs.map (Value.int .u8)).toArray W := by
      have := run_loadCells_list (P := Try.prog) W a (By xs) (fun j v hj => by
        have hjl := (List.getElem?_eq_some_iff.1 hj).1
        rw [By_length] at hjl
        rw [By_get xs j hjl] at hj
        rw [hc j (by rw [← h.1]; exact hjl)]
        exact hj)
      rw [By_length, h.1] at this
      exact this
    rw [run_bytesToString W a n c xs hl, foldl_push_bytes]
    simp [strOfNums, ByteArray.empty, ByteArray.emptyWithCapacity]
    rfl

/-- 'append([]byte(nil), b...)'. -/
theorem append_nil_run (W : World) (ao : Option Addr) (n c : Nat) (xs : List Int) (h : BAt W ao n xs) (hbig : n ≤ 140737488355328) (hnone : ao = none → n = 0 ∧ c = 0) :
    ∃ v' W', (Builtin.append_ #[27, 27] 27 #[.slice none 0 0, .slice ao n c]).run Try.prog W = .ok v' W' ∧ W'.ownsRow W.heap.size 5 1 v' n (By xs) ∧ W.grownBy W' none := by
  obtain ⟨i0, hi, hz0, hz1, hz2⟩ := info5p
  cases ao with
  | none =>
    obtain ⟨rfl, rfl⟩ := hnone rfl
    obtain rfl : xs = [] := List.eq_nil_of_length_eq_zero h.1
    exact ⟨.slice none 0 0, W, run_append_owned_none (P := Try.prog) W W.heap.size 27 27 5 i0 1 Try.underlying27 hi (.slice none 0 0) 0 [] (World.ownsRow_nil W _ 5 1), World.ownsRow_nil W _ 5 1, World.grownBy.refl _ _⟩
  | some a =>
    obtain ⟨v', w', hr, h2, h3, _⟩ := run_append_own (P := Try.prog) W W.heap.size 27 27 5 i0 (.int .u8 0) 1 1 Try.underlying27 hi hz0 hz1 hz2 rfl (by decide) (.slice none 0 0) 0 [] (World.ownsRow_nil W _ 5 1) a n c (By xs) (by rw [By_length, h.1, Nat.mul_one]) (fun j u hj => by
      have hjl := (List.getElem?_eq_some_iff.1 hj).1
      rw [By_length] at hjl
      rw [By_get xs j hjl] at hj
      obtain ⟨a', e, hlt, hc⟩ := h.2 (by have := h.1; omega)
      cases e
      rw [hc j (by rw [← h.1]; exact hjl)]
      exact hj) (By_one xs) (by unfold maxLen; omega) (by omega) (Nat.le_refl _)
    exact ⟨v', w', hr, by simpa using h2, h3⟩

/-- append whose run is known. -/
theorem wpList_append_known {P : Program} {w : World} {ops : Array Oper} {rest : List Oper} {o : Oper} {a : Act} {Q : Exit → Act → World → Prop} (hgd : o.guard = none) (s x : Operand) (t : TypeId)
    (ho : o.op = .call { callee := .builtin .append, args := #[s, x], argTypes := #[t, t] }) (v vx v' : Value) (w' : World) (hs : a.eval s = v) (hx : a.eval x = vx)
    (hrun : (Builtin.append_ #[t, t] o.type #[v, vx]).run P w = .ok v' w') (h : wpList P ops Q rest (a.put o.dst v') w') : wpList P ops Q (o :: rest) a w := by
  refine wpList_plain hgd fun K hK => ?_
  unfold Oper.wp execOp
  simp only [ho, resolve, invoke, builtin, Sem.run_bind, Sem.run_pure, Result.andThen_ok, List.map_toArray, List.map_cons, List.map_nil, hs, hx, hrun]
  exact hK _ _ h

/-- Block g holds bytes, n of them at least, and may be written. -/
def Bytey (W : World) (g n : Nat) : Prop := ∃ cur, W.heap[g]? = some (.cells cur 5 (0, 0)) ∧ ∀ i, i < n → ∃ v : Int, 0 ≤ v ∧ v ≤ 255 ∧ cur[i]? = some (.int .u8 v)

theorem Bytey.at {W : World} {g n : Nat} (h : Bytey W g n) (i : Nat) (hi : i < n) : ∃ v : Int, 0 ≤ v ∧ v ≤ 255 ∧ W.cell? ⟨g, i, none⟩ = some (.int .u8 v) ∧ W.frozen? ⟨g, i, none⟩ = false := by
  obtain ⟨cur, hb, hc⟩ := h
  obtain ⟨v, h0, h1, hv⟩ := hc i hi
  exact ⟨v, h0, h1, by rw [blk_cell hb, hv], blk_free hb i⟩

theorem Bytey.set {W : World} {g n : Nat} (h : Bytey W g n) (i : Nat) (v : Int) (h0 : 0 ≤ v) (h1 : v ≤ 255) : Bytey (W.setCell ⟨g, i, none⟩ (.int .u8 v)) g n := by
  obtain ⟨cur, hb, hc⟩ := h
  refine ⟨_, blk_set hb, fun j hj => ?_⟩
  by_cases e : i = j
  · subst e
    obtain ⟨u, _, _, hu⟩ := hc i hj
    have hlt : i < cur.size := (Array.getElem?_eq_some_iff.1 hu).1
    exact ⟨v, h0, h1, by simp [hlt]⟩
  · obtain ⟨u, k0, k1, hu⟩ := hc j hj
    exact ⟨u, k0, k1, by rw [Array.getElem?_setIfInBounds_ne e]; exact hu⟩

theorem owns_bytey {w : World} {base : Nat} {v : Value} {n : Nat} {xs : List Int} (h : w.ownsRow base 5 1 v n (By xs)) (hx : ∀ x ∈ xs, 0 ≤ x ∧ x ≤ 255) (g : Nat) (hg : v.ownBlock = some g) : Bytey w g n := by
  obtain ⟨h1, h2⟩ := h
  rcases h2 with h2 | ⟨g', cap, cur, rfl, _, hh, hnc, hm, hsz, ht⟩
  · rw [h2.1] at hg
    simp [Value.ownBlock] at hg
  · simp [Value.ownBlock] at hg
    subst hg
    rw [By_length] at h1
    refine ⟨cur, hh, fun i hi => ?_⟩
    have hi2 : i < xs.length := by omega
    refine ⟨xs[i], (hx _ (List.getElem_mem hi2)).1, (hx _ (List.getElem_mem hi2)).2, ?_⟩
    rw [← Array.getElem?_toList]
    have : cur.toList[i]? = (By xs)[i]? := by rw [← ht, List.getElem?_take, if_pos (by omega)]
    rw [this, By_get xs i hi2]
    simp [List.getD, List.getElem?_eq_getElem hi2]

theorem owns_BAt {w : World} {base : Nat} {v : Value} {n : Nat} {xs : List Int} (h : w.ownsRow base 5 1 v n (By xs)) : ∃ ao c, v = .slice ao n c ∧ BAt w ao n xs ∧ (∀ a, ao = some a → base ≤ a.block ∧ v.ownBlock = some a.block ∧ a.off = 0 ∧ a.spot = none) ∧ (0 < n → ao ≠ none) := by
  have h' := h
  obtain ⟨h1, h2⟩ := h
  rw [By_length, Nat.mul_one] at h1
  rcases h2 with ⟨rfl, rfl⟩ | ⟨g, cap, cur, rfl, hg, hh, hnc, hm, hsz, ht⟩
  · exact ⟨none, 0, rfl, ⟨h1, fun h => by omega⟩, fun a e => (by cases e), fun h => by omega⟩
  · obtain ⟨g', cap', e, _, hlt, _, _, hcell⟩ := owns_bytes h' (by simp)
    cases e
    exact ⟨_, _, rfl, ⟨h1, fun _ => ⟨_, rfl, hlt, hcell⟩⟩, fun a e => (by cases e; exact ⟨hg, rfl, rfl, rfl⟩), fun _ => by simp⟩

/-- Read, whatever the disk and the number. -/
theorem read_any (F : Nat → Prop) (w : World) (d : Nat) (s : DS) (h : DiskAt F w d s) (hn : s.img.length ≤ 20480000) (block : Int) :
    Calls Try.prog 10 #[.pointer (some ⟨d, 0, none⟩), .int .i64 block] w fun e w' => ∃ xo xn xc, e = .returned (.tuple #[.slice xo xn xc, .bool (hasB s block && !s.dead)]) ∧ Below w.heap.size w w' ∧
      (∀ a, xo = some a → w.heap.size ≤ a.block ∧ a.off = 0 ∧ a.spot = none) ∧
      ((hasB s block && !s.dead) = true → xn = 1024 ∧ w'.ownsRow w.heap.size 5 1 (.slice xo xn xc) 1024 (By ((s.img.drop (1024 * block.toNat)).take 1024)) ∧ xo ≠ none) ∧ ((hasB s block && !s.dead) = false → xn = 0) := by
  cases hb : (hasB s block && !s.dead) with
  | false =>
    refine (read_no F w d s h hn block (by simp at hb; cases hd : hasB s block <;> simp_all)).mono ?_
    rintro e w' ⟨rfl, rfl⟩
    exact ⟨none, 0, 0, rfl, Below.refl _ _, fun a e => (by cases e), fun h => (by cases h), fun _ => rfl⟩
  | true =>
    simp at hb
    obtain ⟨q, rfl, hq⟩ := hasB_nat hb.1
    refine (read_yes F w d s h hn q hb.1 hb.2).mono ?_
    rintro e w' ⟨v', rfl, hown, hnn, hB⟩
    obtain ⟨g, cap, rfl, hg, _⟩ := owns_bytes hown hnn
    exact ⟨some ⟨g, 0, none⟩, 1024, cap, rfl, hB, fun a e => (by cases e; exact ⟨hg, rfl, rfl⟩), fun _ => ⟨rfl, by simpa using hown, by simp⟩, fun h => (by cases h)⟩

end Go.Proofs.Ytochgjajlojfeaa
