/-
  A file's blocks: one less, and what a cut leaves; in lists, and as they lie.
-/
import Derived.Test.YtehaoeclnmelhacGreatTrByte
import Derived.Lib.SliceRun
namespace Go.Proofs.YtehaoeclnmelhacGreat
open Go Go.Proofs Go.RowKit Go.Shelf

def remP (x : Int) (p : List (Int × List Int)) : List (Int × List Int) := p.filter (fun q => decide (q.1 ≠ x))
def remR (x : Int) (p : List (Int × List Int)) (r : List Nat) : List Nat := ((p.zip r).filter (fun e => decide (e.1.1 ≠ x))).map (·.2)
theorem zip_rem (x : Int) {p : List (Int × List Int)} {r : List Nat} (hl : r.length = p.length) : (remP x p).zip (remR x p r) = (p.zip r).filter (fun e => decide (e.1.1 ≠ x)) := by
  unfold remP remR
  rw [filter_zip (fun q => decide (q.1 ≠ x)) hl, zip_parts]
theorem rem_len (x : Int) {p : List (Int × List Int)} {r : List Nat} (hl : r.length = p.length) : (remR x p r).length = (remP x p).length := by
  unfold remP remR
  rw [filter_zip (fun q => decide (q.1 ≠ x)) hl]
  simp
theorem rem_count (x : Int) {p : List (Int × List Int)} (hp : (p.map (·.1)).Pairwise (· < ·)) : (remP x p).length = if x ∈ p.map (·.1) then p.length - 1 else p.length := by
  induction p with
  | nil => rfl
  | cons a p ih =>
    rw [List.map_cons, List.pairwise_cons] at hp
    have ih := ih hp.2
    unfold remP at ih ⊢
    by_cases h : a.1 = x
    · have hno : x ∉ p.map (·.1) := fun hm => by have := hp.1 x hm; omega
      rw [if_neg hno] at ih
      rw [List.filter_cons_of_neg (by simp [h]), ih, if_pos (by simp [h])]
      simp
    · rw [List.filter_cons_of_pos (by simp [h]), List.length_cons, ih]
      by_cases hm : x ∈ p.map (·.1)
      · rw [if_pos hm, if_pos (by rw [List.map_cons]; exact List.mem_cons_of_mem _ hm)]
        have : 0 < p.length := List.length_pos_of_mem (List.mem_map.1 hm).choose_spec.1
        simp only [List.length_cons]
        omega
      · rw [if_neg hm, if_neg (by rw [List.map_cons, List.mem_cons]; rintro (e | e); exact h e.symm; exact hm e)]
        rfl
theorem fl_rem (x : Int) {p : List (Int × List Int)} {r : List Nat} (hl : r.length = p.length) : flF (remP x p) (remR x p r) = updF (flF p r) (.int .i64 x) none := by
  funext kl
  have hother : ∀ l : Lit, (∀ y, l ≠ .int .i64 y) → flF (remP x p) (remR x p r) l = flF p r l := fun l hn => by
    unfold flF
    split
    · rename_i y
      exact absurd rfl (hn y)
    · first
        | rfl
        | (split
           · rename_i y
             exact absurd rfl (hn y)
           · rfl)
  by_cases hk : ∃ y, kl = .int .i64 y
  · obtain ⟨y, rfl⟩ := hk
    have e : ∀ (p' : List (Int × List Int)) (r' : List Nat), flF p' r' (.int .i64 y) = ((p'.zip r').find? (fun q => decide (q.1.1 = y))).map (fun q => .slice (some ⟨q.2, 0, none⟩) 1024 1024) := fun _ _ => rfl
    rw [e, zip_rem x hl, find_filter y (fun z => decide (z ≠ x))]
    by_cases hy : y = x
    · subst hy
      rw [upd_same]
      simp
    · rw [upd_other _ _ (by simpa using hy), e]
      simp [hy]
  · have hn : ∀ y, kl ≠ .int .i64 y := fun y h => hk ⟨y, h⟩
    rw [hother kl hn, upd_other _ _ (hn x)]
theorem rem_ok (x : Int) {p : List (Int × List Int)} (hp : partsOk p) : partsOk (remP x p) :=
  ⟨hp.1.sublist ((List.filter_sublist).map _), fun y hy => hp.2 y (List.mem_filter.1 hy).1⟩
theorem remR_mem {x : Int} {p : List (Int × List Int)} {r : List Nat} {q : Nat} (h : q ∈ remR x p r) : q ∈ r := by
  unfold remR at h
  obtain ⟨e, he, rfl⟩ := List.mem_map.1 h
  exact (List.of_mem_zip (List.mem_filter.1 he).1).2
/-- A block less. -/
theorem PtAt.del {W W' : World} {m : Nat} {r : List Nat} {p : List (Int × List Int)} (h : PtAt W m r p) {x : Int} (hb : MAt W' 3 m (if (flF p r (.int .i64 x)).isSome = true then p.length - 1 else p.length) (updF (flF p r) (.int .i64 x) none)) (ho : Only (fun k => k = m) W W') : PtAt W' m (remR x p r) (remP x p) := by
  have hc := rem_count x h.ok.1
  rw [fl_mem h.len] at hb
  simp only [decide_eq_true_eq] at hb
  rw [← hc] at hb
  refine ⟨by rw [fl_rem x h.len]; exact hb, rem_len x h.len, fun e he => ?_, rem_ok x h.ok, ?_⟩
  · rw [zip_rem x h.len] at he
    have he := (List.mem_filter.1 he).1
    have hq := (List.of_mem_zip he).2
    obtain ⟨h1, h2⟩ := h.rows e he
    exact ⟨(ho.block e.2 (lt_of_block h1) (fun e' => (List.nodup_cons.1 h.nd).1 (e' ▸ hq))).trans h1, h2⟩
  · refine List.nodup_cons.2 ⟨fun hm => (List.nodup_cons.1 h.nd).1 (remR_mem hm), ?_⟩
    have hz : ((p.zip r).map (·.2)).Nodup := by
      rw [List.map_snd_zip (by have := h.len; omega)]
      exact (List.nodup_cons.1 h.nd).2
    exact hz.sublist ((List.filter_sublist).map _)
/-- The blocks once the first k numbers of L are looked at: those that begin at c or behind are gone. -/
def dlP (c : Int) (L : List Int) (p : List (Int × List Int)) : Nat → List (Int × List Int)
  | 0 => p
  | k + 1 => if c ≤ L.getD k 0 * 1024 then remP (L.getD k 0) (dlP c L p k) else dlP c L p k
def dlR (c : Int) (L : List Int) (p : List (Int × List Int)) (r : List Nat) : Nat → List Nat
  | 0 => r
  | k + 1 => if c ≤ L.getD k 0 * 1024 then remR (L.getD k 0) (dlP c L p k) (dlR c L p r k) else dlR c L p r k
theorem dlR_mem (c : Int) (L : List Int) (p : List (Int × List Int)) (r : List Nat) (k : Nat) : ∀ q ∈ dlR c L p r k, q ∈ r := by
  induction k with
  | zero => exact fun q hq => hq
  | succ k ih =>
    intro q hq
    rw [dlR] at hq
    split at hq
    · exact ih q (remR_mem hq)
    · exact ih q hq
theorem dl_filter (c : Int) (L : List Int) (p : List (Int × List Int)) (k : Nat) (hk : k ≤ L.length) : dlP c L p k = p.filter (fun q => decide (q.1 * 1024 < c ∨ q.1 ∉ L.take k)) := by
  induction k with
  | zero =>
    rw [dlP, List.filter_eq_self.2]
    intro a _
    simp
  | succ k ih =>
    have ih := ih (by omega)
    have hget : L[k]? = some (L.getD k 0) := by
      rw [List.getElem?_eq_getElem (by omega)]
      simp only [List.getD, List.getElem?_eq_getElem (show k < L.length by omega), Option.getD_some]
    have hmem : ∀ y, y ∈ L.take (k + 1) ↔ y ∈ L.take k ∨ y = L.getD k 0 := fun y => by
      rw [List.take_add_one, hget]
      simp
    rw [dlP]
    split
    · rename_i hc
      rw [ih]
      unfold remP
      rw [List.filter_filter]
      refine List.filter_congr (fun a _ => ?_)
      rw [Bool.and_eq_decide, decide_eq_decide]
      simp only [decide_eq_true_eq]
      rw [hmem]
      constructor
      · rintro ⟨h1, h2 | h2⟩
        · exact .inl h2
        · exact .inr (fun h => h.elim h2 h1)
      · rintro (h | h)
        · refine ⟨fun e => ?_, .inl h⟩
          rw [e] at h
          omega
        · exact ⟨fun e => h (.inr e), .inr (fun e => h (.inl e))⟩
    · rename_i hc
      rw [ih]
      refine List.filter_congr (fun a _ => ?_)
      rw [decide_eq_decide, hmem]
      constructor
      · rintro (h | h)
        · exact .inl h
        · by_cases e : a.1 = L.getD k 0
          · exact .inl (by rw [e]; omega)
          · exact .inr (fun h' => h'.elim h e)
      · rintro (h | h)
        · exact .inl h
        · exact .inr (fun e => h (.inl e))
theorem dl_end (c : Int) (p : List (Int × List Int)) : dlP c (p.map (·.1)) p p.length = p.filter (fun q => decide (q.1 * 1024 < c)) := by
  rw [dl_filter c _ p p.length (by simp)]
  refine List.filter_congr (fun a ha => ?_)
  rw [decide_eq_decide, List.take_of_length_le (by simp)]
  constructor
  · rintro (h | h)
    · exact h
    · exact absurd (List.mem_map.2 ⟨a, ha, rfl⟩) h
  · exact .inl
/-- What a cut leaves of the blocks. -/
def cutP (c : Int) (p : List (Int × List Int)) : List (Int × List Int) :=
  match getP (p.filter (fun q => decide (q.1 * 1024 < c))) (c / 1024) with
  | none => p.filter (fun q => decide (q.1 * 1024 < c))
  | some d => putP (c / 1024) (splice d (c % 1024).toNat (zeros (1024 - (c % 1024).toNat))) (p.filter (fun q => decide (q.1 * 1024 < c)))
theorem getP_filter (c : Int) (p : List (Int × List Int)) (y : Int) : getP (p.filter (fun q => decide (q.1 * 1024 < c))) y = if y * 1024 < c then getP p y else none := by
  unfold getP
  by_cases h : y * 1024 < c
  · rw [if_pos h, find_flt (fun q hq => by rw [hq]; simpa using h)]
  · rw [if_neg h, Option.map_eq_none_iff, List.find?_eq_none]
    intro a ha e
    have := (List.mem_filter.1 ha).2
    simp only [decide_eq_true_eq] at this e
    rw [e] at this
    omega
/-- Behind the cut there is nought; before it all is as it was. -/
theorem cut_byte (c : Int) {p : List (Int × List Int)} (hp : fullP p) (i : Int) : byteP (cutP c p) i = if i < c then byteP p i else 0 := by
  unfold byteP cutP
  rw [byteD_row]
  have hg := getP_filter c p
  cases hd : getP (p.filter (fun q => decide (q.1 * 1024 < c))) (c / 1024) with
  | none =>
    simp only
    rw [hg] at hd
    rw [hg]
    by_cases h : i / 1024 * 1024 < c
    · rw [if_pos h, ← byteD_row]
      by_cases h2 : i < c
      · rw [if_pos h2]
      · rw [if_neg h2]
        have e : i / 1024 = c / 1024 := by omega
        rw [if_pos (by omega)] at hd
        unfold byteD
        rw [e, hd]
    · rw [if_neg h, if_neg (by omega), Option.getD_none, zeros_getD]
  | some d =>
    simp only
    have hd2 := hd
    rw [hg] at hd
    have hlt : c / 1024 * 1024 < c := by
      by_cases h : c / 1024 * 1024 < c
      · exact h
      · rw [if_neg h] at hd; cases hd
    rw [if_pos hlt] at hd
    have hl := hp _ _ hd
    rw [getP_put]
    by_cases e : i / 1024 = c / 1024
    · rw [if_pos e, Option.getD_some, splice_getD (by rw [zeros_length]; omega), zeros_length]
      by_cases h2 : i < c
      · rw [if_neg (by omega), if_pos h2]
        unfold byteD
        rw [e, hd]
      · rw [if_pos (by omega), if_neg h2, zeros_getD]
    · rw [if_neg e, hg]
      by_cases h : i / 1024 * 1024 < c
      · rw [if_pos h, if_pos (by omega), ← byteD_row]
      · rw [if_neg h, if_neg (by omega), Option.getD_none, zeros_getD]
theorem splice_cons (xs : List Int) (o : Nat) (y : Int) (ys : List Int) (h : o < xs.length) : splice (xs.set o y) (o + 1) ys = splice xs o (y :: ys) := by
  unfold splice
  rw [List.drop_set, if_pos (by omega), List.take_set, List.take_add_one, List.getElem?_eq_getElem h, List.length_cons, show o + 1 + ys.length = o + (ys.length + 1) by omega]
  have : (xs.take o ++ (some xs[o]).toList).set o y = xs.take o ++ [y] := by
    rw [List.set_append_right _ _ (by rw [List.length_take]; omega), List.length_take, Nat.min_eq_left (by omega), Nat.sub_self]
    rfl
  rw [this]
  simp
/-- Bytes laid one by one into a row. -/
theorem setCells_row (q : Nat) : ∀ (ys : List Int) (o : Nat) (W : World) (xs : List Int), RAt W q xs → o + ys.length ≤ xs.length → RAt (W.setCells q o (By ys)) q (splice xs o ys) ∧ Only (fun k => k = q) W (W.setCells q o (By ys))
  | [], o, W, xs, h, hl => by
    refine ⟨?_, Only.refl _ _⟩
    have e : splice xs o [] = xs := by unfold splice; simp
    rw [e]
    exact h
  | y :: ys, o, W, xs, h, hl => by
    rw [List.length_cons] at hl
    have h1 : RAt (W.setCell ⟨q, o, none⟩ (.int .u8 y)) q (xs.set o y) := by
      have e : (By xs).toArray.setIfInBounds o (.int .u8 y) = (By (xs.set o y)).toArray := by
        simp [By, List.map_set]
      have := blk_set (i := o) (u := .int .u8 y) h
      rw [e] at this
      exact this
    obtain ⟨h2, h3⟩ := setCells_row q ys (o + 1) _ _ h1 (by rw [List.length_set]; omega)
    rw [splice_cons xs o y ys (by omega)] at h2
    exact ⟨h2, ((Only.refl (fun k => k = q) W).setCell (p := ⟨q, o, none⟩) (.inl rfl) _).trans h3 (fun i hi => .inl hi)⟩
/-- clear(b[o:]) of a row. -/
theorem clear_run (W : World) (q o n : Nat) (xs : List Int) (h : RAt W q xs) (hn : 0 < n) (hl : o + n ≤ xs.length) (ty : TypeId) : ∃ W', (Builtin.clear_ #[28] ty #[.slice (some ⟨q, o, none⟩) n n]).run Tryz.prog W = .ok (.tuple #[]) W' ∧ RAt W' q (splice xs o (zeros n)) ∧ Only (fun k => k = q) W W' := by
  have hc : ∀ j, j < n → (W.cell? ⟨q, o + j, none⟩).isSome = true := fun j hj => by
    rw [blk_cell h]
    simp [By_length]
    omega
  have hr := Lib.run_clear_slice (P := Tryz.prog) W 28 5 ty (.int .u8 0) Tryz.underlying28 (fun _ => by kernel_rfl) rfl rfl q o n n hn hc (fun j hj => blk_free h (o + j))
  have e : List.replicate n (Value.int .u8 0) = By (zeros n) := by simp [By, zeros]
  rw [e] at hr
  obtain ⟨h1, h2⟩ := setCells_row q (zeros n) o W xs h (by rw [zeros_length]; exact hl)
  exact ⟨_, hr, h1, h2⟩
theorem putR_in {x : Int} {d : List Int} {q : Nat} {p : List (Int × List Int)} {r : List Nat} (hz : ((x, d), q) ∈ p.zip r) {y : Nat} (hy : y ∈ putR x q p r) : y ∈ r := by
  unfold putR at hy
  rcases List.mem_append.1 hy with h | h
  · obtain ⟨e, he, rfl⟩ := List.mem_map.1 h
    exact (List.of_mem_zip (List.mem_filter.1 he).1).2
  · rcases List.mem_cons.1 h with rfl | h
    · exact (List.of_mem_zip hz).2
    · obtain ⟨e, he, rfl⟩ := List.mem_map.1 h
      exact (List.of_mem_zip (List.mem_filter.1 he).1).2
theorem FlAt.kept' {W W' : World} {b m : Nat} {r : List Nat} {l z : Int} {p : List (Int × List Int)} (h : FlAt W b m r l z p) (hB : Below W.heap.size W W') : FlAt W' b m r l z p :=
  h.kept (fun q hq => hB.block q (NdAt.lt (loc := fun _ => 0) (L := .file b m r) (d := .file l z p) h q hq))
end Go.Proofs.YtehaoeclnmelhacGreat
