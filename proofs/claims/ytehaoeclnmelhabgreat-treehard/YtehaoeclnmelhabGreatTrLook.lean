/-
  What a directory tells: look, firstFree.
-/
import Derived.Test.YtehaoeclnmelhabGreatTrMem
namespace Go.Proofs.YtehaoeclnmelhabGreat
open Go Go.Proofs Go.RowKit Go.Shelf

theorem zero_ptr (w : World) : (zeroValue 52).run Tryz.prog w = .ok (.pointer none) w := by kernel_rfl
theorem zero_int (w : World) : (zeroValue 3).run Tryz.prog w = .ok (.int .i64 0) w := by kernel_rfl
theorem key_str {p : List UInt8} (h : p.length ≤ 1000) : keyOf Tryz.prog 9 (strV p) = some (.string p) := by
  have := WideMaps.keyOf_string_mk (P := Tryz.prog) Tryz.underlying9 (s := mkS p) (by rw [mkS_size]; unfold maxLen; omega)
  rwa [show (mkS p).data.toList = p from of_mk p] at this
theorem name_at {s : List Slt} {p : List UInt8} (h : nameAt s p < s.length) : ∃ j, s.getD (nameAt s p) none = some (j, p) ∧ lookS s p = some j := by
  have e : s.getD (nameAt s p) none = s[nameAt s p] := by simp [List.getD, List.getElem?_eq_getElem h]
  have hb := List.findIdx_getElem (p := hasB p) (w := h)
  change hasB p s[nameAt s p] = true at hb
  unfold lookS
  rw [e]
  cases hs : s[nameAt s p] with
  | none => rw [hs] at hb; cases hb
  | some q =>
    rw [hs] at hb
    simp [hasB] at hb
    exact ⟨q.1, by rw [← hb], rfl⟩
theorem name_none {s : List Slt} {p : List UInt8} (h : ¬ nameAt s p < s.length) : lookS s p = none := by
  unfold lookS
  rw [show s.getD (nameAt s p) none = none by simp [List.getD, List.getElem?_eq_none (Nat.not_lt.1 h)]]
  rfl
theorem look_lt (s : List Slt) (p : List UInt8) : (lookS s p).isSome = decide (nameAt s p < s.length) := by
  by_cases h : nameAt s p < s.length
  · obtain ⟨j, _, e⟩ := name_at h
    rw [e]; simp [h]
  · rw [name_none h]; simp [h]
set_option maxRecDepth 100000 in
set_option maxHeartbeats 2000000 in
theorem look_any (w : World) (loc : Nat → Nat) (b m r c : Nat) (l z : Int) (s : List Slt) (h : DrAt w loc b m r c l z s) (p : List UInt8) (hp : p.length ≤ 1000) :
    Calls Tryz.prog 63 #[ptrV b, strV p] w fun e w' => e = .returned (.tuple #[optV loc (lookS s p), .bool (lookS s p).isSome]) ∧ w' = w := by
  obtain ⟨cur, hcur, hsz, hsc, hcm, hat⟩ := h.cells
  have e4 := blk_cell h.node 4
  have e5 := blk_cell h.node 5
  simp at e4 e5
  have hlk := h.places.look2 keyed9 Tryz.underlying63 (zero_int w) (key_str hp)
  have hl := look_lt s p
  by_cases hlt : nameAt s p < s.length
  · obtain ⟨j, hj, hlj⟩ := name_at hlt
    have hc1 := hat (nameAt s p) 1 (by omega) hlt
    rw [hj] at hc1
    have hcell : w.cell? ⟨r, nameAt s p * 2 + 1, none⟩ = some (ptrV (loc j)) := by rw [blk_cell hcur, hc1]; rfl
    rw [hlj]
    simp only [plF, if_pos hlt, Option.getD_some, Option.isSome_some] at hlk
    have hb : (nameAt s p : Int) < (s.length : Int) := by omega
    generalize nameAt s p = k at *
    clear h hat hcur hc1 hj hlj hl hlt
    unfold ptrV strV optV at *
    go_enter Tryz.func63, Tryz.ntmps63
    go_wp2
    refine bodyPost_ret (results_tmp2 rfl _ _ _) rfl ?_
    exact ⟨rfl, rfl⟩
  · rw [name_none hlt]
    simp only [plF, if_neg hlt, Option.getD_none, Option.isSome_none] at hlk
    clear h hat hcur hl hlt
    unfold ptrV strV optV at *
    go_enter Tryz.func63, Tryz.ntmps63
    go_wp2
    refine bodyPost_ret (results_tmp2 rfl _ _ _) rfl ?_
    exact ⟨rfl, rfl⟩
/-- The name and the node of a slot, as cells. -/
def slN (o : Slt) : List UInt8 := (o.map (·.2)).getD []
def slP (loc : Nat → Nat) (o : Slt) : Value := optV loc (o.map (·.1))
theorem slotC_eq (loc : Nat → Nat) (o : Slt) : slotC loc o = [strV (slN o), slP loc o] := by cases o <;> rfl
theorem DrAt.slot {W : World} {loc : Nat → Nat} {b m r c : Nat} {l z : Int} {s : List Slt} (h : DrAt W loc b m r c l z s) (k : Nat) (hk : k < s.length) :
    W.cell? ⟨r, k * 2, none⟩ = some (strV (slN (s.getD k none))) ∧ W.cell? ⟨r, k * 2 + 1, none⟩ = some (slP loc (s.getD k none)) ∧ W.frozen? ⟨r, k * 2, none⟩ = false ∧ W.frozen? ⟨r, k * 2 + 1, none⟩ = false := by
  obtain ⟨cur, hcur, hsz, hsc, hcm, hat⟩ := h.cells
  have h0 := hat k 0 (by omega) hk
  have h1 := hat k 1 (by omega) hk
  rw [slotC_eq] at h0 h1
  exact ⟨by rw [blk_cell hcur]; exact h0, by rw [blk_cell hcur]; exact h1, blk_free hcur _, blk_free hcur _⟩
theorem free_step {s : List Slt} {k : Nat} (hk : k < s.length) (h : ∀ j, j < k → (s.getD j none).isNone = false) :
    ((s.getD k none).isNone = true → freeAt s = k) ∧ ((s.getD k none).isNone = false → ∀ j, j < k + 1 → (s.getD j none).isNone = false) := by
  refine ⟨fun hn => ?_, fun hn j hj => ?_⟩
  · have g : ∀ j (hj : j < s.length), s.getD j none = s[j] := fun j hj => by simp [List.getD, List.getElem?_eq_getElem hj]
    rcases Nat.lt_trichotomy (freeAt s) k with h1 | h1 | h1
    · have h2 := List.findIdx_getElem (p := fun o : Slt => o.isNone) (xs := s) (w := by change freeAt s < s.length; omega)
      have h3 := h _ h1
      rw [g _ (by omega)] at h3
      have h4 : true = false := h2.symm.trans h3
      cases h4
    · exact h1
    · have h2 := List.not_of_lt_findIdx (p := fun o : Slt => o.isNone) (xs := s) h1
      rw [g k hk] at hn
      have h3 : true = false := hn.symm.trans h2
      cases h3
  · rcases Nat.lt_or_ge j k with h1 | h1
    · exact h j h1
    · rw [show j = k by omega]; exact hn
theorem free_none {s : List Slt} (h : ∀ j, j < s.length → (s.getD j none).isNone = false) : freeAt s = s.length := by
  rcases Nat.lt_or_ge (freeAt s) s.length with h1 | h1
  · have h2 := List.findIdx_getElem (p := fun o : Slt => o.isNone) (xs := s) (w := h1)
    have h3 := h _ h1
    rw [show s.getD (freeAt s) none = s[freeAt s] by simp [List.getD, List.getElem?_eq_getElem h1]] at h3
    have h4 : true = false := h2.symm.trans h3
    cases h4
  · have := List.findIdx_le_length (p := fun o : Slt => o.isNone) (xs := s)
    change freeAt s ≤ s.length at this
    omega
theorem DrAt.below {W W' : World} {loc : Nat → Nat} {b m r c : Nat} {l z : Int} {s : List Slt} (h : DrAt W loc b m r c l z s) (hB : Below W.heap.size W W') : DrAt W' loc b m r c l z s :=
  h.kept (fun k hk => hB.block k (by
    simp only [List.mem_cons, List.not_mem_nil, or_false] at hk
    rcases hk with rfl | rfl | rfl
    · exact lt_of_block h.node
    · exact h.places.lt
    · obtain ⟨cur, hcur, _⟩ := h.cells
      exact lt_of_block hcur))
set_option maxRecDepth 100000 in
set_option maxHeartbeats 2000000 in
theorem free_any (w : World) (loc : Nat → Nat) (b m r c : Nat) (l z : Int) (s : List Slt) (h : DrAt w loc b m r c l z s) (hn : s.length ≤ 16777216) :
    Calls Tryz.prog 62 #[ptrV b] w fun e w' => e = .returned (.int .i64 (freeAt s : Nat)) ∧ Below w.heap.size w w' := by
  have HH := Hid.mk h
  have e4 := blk_cell h.node 4
  simp at e4
  clear h
  unfold ptrV
  obtain ⟨n, hsn⟩ : ∃ n, s.length = n := ⟨_, rfl⟩
  rw [hsn] at e4 hn
  have HN := Hid.mk hsn
  have HW := Hid.mk hn
  clear hsn hn
  go_enter Tryz.func62, Tryz.ntmps62
  go_wp2
  go_loopw [10] (fun i wr => ∃ k : Nat, k ≤ n ∧ i = .int .i64 k ∧ (∀ j, j < k → (s.getD j none).isNone = false) ∧ Below w.heap.size w wr) (fun i _ => n - (intOf i).toNat)
  case atStart => exact ⟨0, by omega, rfl, fun j hj => by omega, Below.refl _ _⟩
  case round =>
    obtain ⟨k, hk, rfl, hf, hbl⟩ := hrel
    have HF := Hid.mk hf
    have HB := Hid.mk hbl
    have hd := HH.out.below hbl
    have e4 := blk_cell hd.node 4
    simp at e4
    rw [HN.out] at e4
    clear hf hbl
    by_cases hlt : k < n
    · obtain ⟨c0, c1, -, -⟩ := hd.slot k (by rw [HN.out]; exact hlt)
      have hi : (k : Int) < n := by omega
      have hw1 : IntKind.i64.wrap ((k : Int) + 1) = (k : Int) + 1 := by rw [IntKind.wrap_i64]; have := HW.out; omega
      have HS := free_step (s := s) (k := k) (by rw [HN.out]; exact hlt) HF.out
      cases ho : s.getD k none with
      | none =>
        rw [ho] at c0 c1 HS
        unfold slN strV at c0
        unfold slP at c1
        simp only [Option.map_none, optV, Option.getD_none] at c0 c1
        clear hd
        have HSS := Hid.mk HS
        clear HS
        go_wp2
        go_ret
        refine ⟨?_, ?_⟩
        · rw [HSS.out.1 rfl]; rfl
        exact (by simpa using HB.out.trans (((Below.refl _ wr).alloc (Nat.le_refl _) _).mono (by simpa using HB.out.size)))
      | some q =>
        rw [ho] at c0 c1 HS
        unfold slN strV at c0
        unfold slP at c1
        simp only [Option.map_some, optV, Option.getD_some, ptrV] at c0 c1
        clear hd
        have HSS := Hid.mk HS
        clear HS
        go_wp2
        refine ⟨⟨k + 1, by omega, by simp, HSS.out.2 rfl, HB.out.trans (((Below.refl _ wr).alloc (Nat.le_refl _) _).mono HB.out.size)⟩, ?_⟩
        simp [intOf]
        omega
    · obtain rfl : k = n := by omega
      have hi : ¬ (k : Int) < (k : Nat) := by omega
      clear hd
      go_wp2
      go_ret
      refine ⟨?_, HB.out⟩
      have e := free_none (s := s) (by rw [HN.out]; exact HF.out)
      rw [e, HN.out]
      rfl
end Go.Proofs.YtehaoeclnmelhabGreat
