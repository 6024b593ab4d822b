/-
  The law's own model of a cache, as it lies in memory.
-/
import Derived.Test.YtmbhjheoomlggaaCaOrder
namespace Go.Proofs.Ytmbhjheoomlggaa
open Go Go.Proofs Go.RowKit Go.Shelf
/-- A block that the model keeps, and where its bytes lie. -/
structure Md where
  kb : Kb
  g : Nat
  cap : Nat
def mdC (m : Md) : List Value := [.int .i64 m.kb.num, .int .i64 (m.kb.pins : Nat), .bool m.kb.dirty, .slice (some ⟨m.g, 0, none⟩) 1024 m.cap]
def mdCs (ms : List Md) : List Value := ms.flatMap mdC
theorem mdC_length (m : Md) : (mdC m).length = 4 := rfl
theorem mdCs_cons (m : Md) (ms : List Md) : mdCs (m :: ms) = mdC m ++ mdCs ms := rfl
theorem mdCs_append (a b : List Md) : mdCs (a ++ b) = mdCs a ++ mdCs b := by simp [mdCs]
theorem mdCs_length (ms : List Md) : (mdCs ms).length = ms.length * 4 := by
  induction ms with
  | nil => rfl
  | cons m ms ih => rw [mdCs_cons, List.length_append, ih, mdC_length, List.length_cons]; omega
theorem mdCs_get (ms : List Md) (i j : Nat) (hi : i < ms.length) (hj : j < 4) : (mdCs ms)[i * 4 + j]? = (mdC ms[i])[j]? := by
  induction ms generalizing i with
  | nil => simp at hi
  | cons m ms ih =>
    rw [mdCs_cons]
    cases i with
    | zero => rw [List.getElem?_append_left (by rw [mdC_length]; omega)]; simp
    | succ i =>
      rw [List.getElem?_append_right (by rw [mdC_length]; omega), mdC_length, show (i + 1) * 4 + j - 4 = i * 4 + j by omega, ih i (by simpa using hi)]
      rfl
theorem mdCs_one (ms : List Md) : ∀ u ∈ mdCs ms, u.oneCell' = true := by
  intro u hu
  obtain ⟨m, _, h⟩ := List.mem_flatMap.1 hu
  simp only [mdC, List.mem_cons, List.mem_nil_iff, or_false] at h
  rcases h with rfl | rfl | rfl | rfl <;> rfl
theorem mdCs_drop (ms : List Md) (i : Nat) : (mdCs ms).drop (i * 4) = mdCs (ms.drop i) := by
  induction i generalizing ms with
  | zero => simp
  | succ i ih =>
    cases ms with
    | nil => simp [mdCs]
    | cons m ms =>
      rw [mdCs_cons, show (i + 1) * 4 = 4 + i * 4 by omega, ← List.drop_drop, List.drop_left' (mdC_length m), ih]
      rfl
theorem mdCs_take (ms : List Md) (i : Nat) : (mdCs ms).take (i * 4) = mdCs (ms.take i) := by
  induction i generalizing ms with
  | zero => simp [mdCs]
  | succ i ih =>
    cases ms with
    | nil => simp [mdCs]
    | cons m ms =>
      rw [mdCs_cons, List.take_append, mdC_length, List.take_of_length_le (by rw [mdC_length]; omega), show (i + 1) * 4 - 4 = i * 4 by omega, ih]
      rfl
theorem info39 : (Try.prog.info? 39).map (fun i => (i.zero, i.size, i.bytes)) = some (some (.agg #[.int .i64 0, .int .i64 0, .bool false, .slice none 0 0]), 4, 48) := by kernel_rfl
theorem info39p : ∃ i0, Try.prog.info? 39 = some i0 ∧ i0.zero = some (.agg #[.int .i64 0, .int .i64 0, .bool false, .slice none 0 0]) ∧ i0.size = 4 ∧ i0.bytes = 48 := by
  obtain ⟨i0, hi, hz0, hz1, hz2⟩ := info_parts info39
  exact ⟨i0, hi, hz0, hz1, hz2⟩
/-- A row of kept blocks, opened. -/
theorem owns_kept {w : World} {base : Nat} {v : Value} {ms : List Md} (h : w.ownsRow base 39 4 v ms.length (mdCs ms)) (hn : 0 < ms.length) :
    ∃ g c cur, v = .slice (some ⟨g, 0, none⟩) ms.length c ∧ ms.length ≤ c ∧ c ≤ maxLen ∧ base ≤ g ∧ w.heap[g]? = some (.cells cur 39 (0, 0)) ∧ cur.size = c * 4 ∧ ∀ i j, i < ms.length → j < 4 → ∀ u, (mdC (ms.getD i ⟨⟨0, 0, false, []⟩, 0, 0⟩))[j]? = some u → w.cell? ⟨g, i * 4 + j, none⟩ = some u := by
  obtain ⟨h1, h2⟩ := h
  rcases h2 with ⟨_, h0⟩ | ⟨g, cap, cur, rfl, hg, hh, hnc, hm, hsz, ht⟩
  · omega
  · refine ⟨g, cap, cur, rfl, hnc, hm, hg, hh, hsz, fun i j hi hj u hu => ?_⟩
    rw [blk_cell hh, ← Array.getElem?_toList]
    have e1 : (cur.toList.take (ms.length * 4))[i * 4 + j]? = (mdCs ms)[i * 4 + j]? := by rw [ht]
    rw [List.getElem?_take, if_pos (by omega), mdCs_get ms i j hi hj] at e1
    rw [e1, ← hu]
    congr 2
    simp [List.getD, List.getElem?_eq_getElem hi]
structure MoAt (F : Nat → Prop) (W : World) (mm : Nat) (lv : Value) (e size : Nat) (reads : Int) (ms : List Md) : Prop where
  fm : F mm
  blk : W.heap[mm]? = some (.cells #[lv, .int .i64 (size : Nat), ptV e, .int .i64 reads] 31 (0, 0))
  row : W.ownsRow 0 39 4 lv ms.length (mdCs ms)
  rowF : ∀ k, lv.ownBlock = some k → F k
  dat : ∀ m ∈ ms, W.ownsRow 0 5 1 (.slice (some ⟨m.g, 0, none⟩) 1024 m.cap) 1024 (By m.kb.dat) ∧ F m.g
section
variable {F : Nat → Prop} {W W' : World} {mm e size : Nat} {reads : Int} {ms : List Md} {lv : Value}
theorem MoAt.keep (h : MoAt F W mm lv e size reads ms) (hk : ∀ k, F k → k < W.heap.size → W'.heap[k]? = W.heap[k]?) : MoAt F W' mm lv e size reads ms :=
  ⟨h.fm, (hk mm h.fm (lt_of_block h.blk)).trans h.blk, owns_at h.row (fun k ek => hk k (h.rowF k ek) (h.row.lt k ek).2), h.rowF, fun m hm => ⟨owns_at (h.dat m hm).1 (fun k ek => by
    obtain rfl : m.g = k := by simpa [Value.ownBlock] using ek
    exact hk _ (h.dat m hm).2 ((h.dat m hm).1.lt _ rfl).2), (h.dat m hm).2⟩⟩
theorem MoAt.only {S : Nat → Prop} (h : MoAt F W mm lv e size reads ms) (ho : Only S W W') (hS : ∀ k, k < W.heap.size → F k → ¬ S k) : MoAt F W' mm lv e size reads ms := h.keep (fun k hk hl => ho.block k hl (hS k hl hk))
theorem MoAt.below (h : MoAt F W mm lv e size reads ms) (hB : Below W.heap.size W W') : MoAt F W' mm lv e size reads ms := h.keep (fun k _ hl => hB.block k hl)
theorem MoAt.mono {H : Nat → Prop} (h : MoAt F W mm lv e size reads ms) (hk : ∀ k, k < W.heap.size → F k → H k) : MoAt H W mm lv e size reads ms :=
  ⟨hk mm (lt_of_block h.blk) h.fm, h.blk, h.row, fun k ek => hk k (h.row.lt k ek).2 (h.rowF k ek), fun m hm => ⟨(h.dat m hm).1, hk _ ((h.dat m hm).1.lt _ rfl).2 (h.dat m hm).2⟩⟩
end
theorem mo_cells {W : World} {mm : Nat} {v0 v1 v2 v3 : Value} (hb : W.heap[mm]? = some (.cells #[v0, v1, v2, v3] 31 (0, 0))) : W.cell? ⟨mm, 0, none⟩ = some v0 ∧ W.cell? ⟨mm, 1, none⟩ = some v1 ∧ W.cell? ⟨mm, 2, none⟩ = some v2 ∧ W.cell? ⟨mm, 3, none⟩ = some v3 ∧ W.frozen? ⟨mm, 0, none⟩ = false ∧ W.frozen? ⟨mm, 1, none⟩ = false ∧ W.frozen? ⟨mm, 3, none⟩ = false :=
  ⟨by rw [blk_cell hb]; rfl, by rw [blk_cell hb]; rfl, by rw [blk_cell hb]; rfl, by rw [blk_cell hb]; rfl, blk_free hb 0, blk_free hb 1, blk_free hb 3⟩
/-- Where a block stands. -/
def atN (ms : List Md) (n : Int) : Nat := ms.findIdx (fun m => m.kb.num == n)
def atI (ms : List Md) (n : Int) : Int := if atN ms n < ms.length then (atN ms n : Int) else -1
def md0 : Md := ⟨⟨0, 0, false, []⟩, 0, 0⟩
theorem at_is {ms : List Md} {n : Int} {k : Nat} (hk : k < ms.length) (h1 : (ms.getD k md0).kb.num = n) (h2 : ∀ j, j < k → (ms.getD j md0).kb.num ≠ n) : atI ms n = k := by
  have e : atN ms n = k := by
    unfold atN
    rw [List.findIdx_eq hk]
    refine ⟨?_, fun j hj => ?_⟩
    · simpa [List.getD, List.getElem?_eq_getElem hk] using h1
    · have := h2 j hj
      simpa [List.getD, List.getElem?_eq_getElem (Nat.lt_trans hj hk)] using this
  unfold atI
  rw [e, if_pos hk]
theorem at_none {ms : List Md} {n : Int} (h : ∀ j, j < ms.length → (ms.getD j md0).kb.num ≠ n) : atI ms n = -1 := by
  have e : atN ms n = ms.length := by
    unfold atN
    refine List.findIdx_eq_length.2 (fun x hx => ?_)
    obtain ⟨j, hj, rfl⟩ := List.mem_iff_getElem.1 hx
    have := h j hj
    simpa [List.getD, List.getElem?_eq_getElem hj] using this
  unfold atI
  rw [e, if_neg (by omega)]
/-- The cells of the model's rows. -/
theorem MoAt.cells {F : Nat → Prop} {W : World} {mm e size : Nat} {reads : Int} {ms : List Md} {lv : Value} (h : MoAt F W mm lv e size reads ms) (hn : 0 < ms.length) :
    ∃ g c, lv = .slice (some ⟨g, 0, none⟩) ms.length c ∧ ms.length ≤ c ∧ F g ∧ g < W.heap.size ∧ g ≠ mm ∧ ∀ i, i < ms.length → W.cell? ⟨g, i * 4, none⟩ = some (.int .i64 (ms.getD i md0).kb.num) ∧ W.cell? ⟨g, i * 4 + 1, none⟩ = some (.int .i64 ((ms.getD i md0).kb.pins : Nat)) ∧ W.cell? ⟨g, i * 4 + 2, none⟩ = some (.bool (ms.getD i md0).kb.dirty) ∧ W.cell? ⟨g, i * 4 + 3, none⟩ = some (.slice (some ⟨(ms.getD i md0).g, 0, none⟩) 1024 (ms.getD i md0).cap) ∧ ∀ j, W.frozen? ⟨g, j, none⟩ = false := by
  obtain ⟨g, c, cur, hv, h1, _, _, h2, _, h3⟩ := owns_kept h.row hn
  refine ⟨g, c, hv, h1, h.rowF g (by rw [hv]; rfl), lt_of_block h2, fun e' => ?_, fun i hi => ⟨h3 i 0 hi (by omega) _ rfl, h3 i 1 hi (by omega) _ rfl, h3 i 2 hi (by omega) _ rfl, h3 i 3 hi (by omega) _ rfl, fun j => blk_free h2 j⟩⟩
  have := h.blk
  rw [← e', h2] at this
  simp at this
set_option maxRecDepth 100000 in
set_option maxHeartbeats 4000000 in
theorem mat_any {F : Nat → Prop} {w : World} {mm e size : Nat} {reads : Int} {ms : List Md} {lv : Value} (h : MoAt F w mm lv e size reads ms) (hl : ms.length ≤ 1000000) (n : Int) :
    Calls Try.prog 11 #[ptV mm, .int .i64 n] w fun e w' => e = .returned (.int .i64 (atI ms n)) ∧ w' = w := by
  have c0 := (mo_cells h.blk).1
  obtain ⟨vo, vc, hv⟩ : ∃ vo vc, lv = .slice vo ms.length vc := by
    rcases Nat.eq_zero_or_pos ms.length with h0 | h0
    · rcases h.row.2 with ⟨hv, _⟩ | ⟨g, cap, cur, hv, _⟩
      · exact ⟨none, 0, by rw [hv, h0]⟩
      · exact ⟨_, _, hv⟩
    · obtain ⟨g, c, hv, _⟩ := h.cells h0
      exact ⟨_, _, hv⟩
  subst hv
  have HC : Hid (∀ i, i < ms.length → ∃ g, vo = some ⟨g, 0, none⟩ ∧ w.cell? ⟨g, i * 4, none⟩ = some (.int .i64 (ms.getD i md0).kb.num)) := Hid.mk (fun i hi => by
    obtain ⟨g, c, hv, _, _, _, _, hc⟩ := h.cells (by omega)
    cases hv
    exact ⟨g, rfl, (hc i hi).1⟩)
  clear h
  go_enter Try.func11, Try.ntmps11
  go_wp2
  go_loopw [5] (fun q wr => ∃ k : Nat, q = .int .i64 k ∧ k ≤ ms.length ∧ wr = w ∧ Hid (∀ j, j < k → (ms.getD j md0).kb.num ≠ n)) (fun q _ => ms.length - (intOf q).toNat)
  case atStart => exact ⟨0, rfl, Nat.zero_le _, rfl, Hid.mk (fun j hj => by omega)⟩
  case round =>
    obtain ⟨k, rfl, hk, rfl, HA⟩ := hrel
    have hw1 : IntKind.i64.wrap ((k : Int) + 1) = (k : Int) + 1 := by rw [IntKind.wrap_i64]; omega
    by_cases hlt : k < ms.length
    · have hi : (k : Int) < (ms.length : Int) := by omega
      obtain ⟨g, rfl, c1⟩ := HC.out k hlt
      by_cases he : (ms.getD k md0).kb.num = n
      · have HI : Hid (atI ms n = k) := Hid.mk (at_is hlt he HA.out)
        rw [he] at c1
        clear he
        go_wp2
        go_ret
        exact ⟨by rw [HI.out]; rfl, rfl⟩
      · have HA2 : Hid (∀ j, j < k + 1 → (ms.getD j md0).kb.num ≠ n) := Hid.mk (fun j hj => by
          rcases Nat.lt_or_ge j k with h | h
          · exact HA.out j h
          · obtain rfl : j = k := by omega
            exact he)
        obtain ⟨x, hx⟩ : ∃ x, x = (ms.getD k md0).kb.num := ⟨_, rfl⟩
        rw [← hx] at c1 he
        clear hx
        have he2 : (x == n) = false := by simpa using he
        go_wp2
        go_roundw
        case rel => exact ⟨k + 1, by go_num, by omega, trivial, HA2⟩
        case measure => simp [intOf]; omega
    · have hi : ¬ (k : Int) < (ms.length : Int) := by omega
      obtain rfl : k = ms.length := by omega
      have HI : Hid (atI ms n = -1) := Hid.mk (at_none HA.out)
      go_wp2
      go_ret
      exact ⟨by rw [HI.out]; rfl, rfl⟩
end Go.Proofs.Ytmbhjheoomlggaa
