/-
  What a path's parts are, as lists of bytes: no program.
-/
import Derived.Test.YtbahbhaoimabdaaNames
import Derived.Lib.Join
namespace Go.Proofs.Ytbahbhaoimabdaa
open Go Go.Proofs Go.RowKit Go.Shelf

/-- A string of these bytes. -/
def mkS (l : List UInt8) : ByteArray := ⟨l.toArray⟩
def ofS (s : ByteArray) : List UInt8 := s.data.toList
theorem mk_of (s : ByteArray) : mkS (ofS s) = s := by obtain ⟨⟨l⟩⟩ := s; rfl
theorem of_mk (l : List UInt8) : ofS (mkS l) = l := by simp [mkS, ofS]
theorem mkS_size (l : List UInt8) : (mkS l).size = l.length := by simp [mkS, ByteArray.size]
theorem ofS_length (s : ByteArray) : (ofS s).length = s.size := by simp [ofS]
theorem mkS_inj {l m : List UInt8} (h : mkS l = mkS m) : l = m := by rw [← of_mk l, ← of_mk m, h]
theorem ofS_inj {s t : ByteArray} (h : ofS s = ofS t) : s = t := by rw [← mk_of s, ← mk_of t, h]

/-- What lies between slashes. -/
def pieces : List UInt8 → List (List UInt8)
  | [] => [[]]
  | c :: l => if c = 47 then [] :: pieces l else (c :: (pieces l).headD []) :: (pieces l).tail
theorem pieces_ne (l : List UInt8) : pieces l ≠ [] := by
  cases l with
  | nil => simp [pieces]
  | cons c l => unfold pieces; split <;> simp
theorem pieces_cons (l : List UInt8) : ∃ h t, pieces l = h :: t := by
  cases e : pieces l with
  | nil => exact absurd e (pieces_ne l)
  | cons h t => exact ⟨h, t, rfl⟩
theorem pieces_slash (x y : List UInt8) : pieces (x ++ 47 :: y) = pieces x ++ pieces y := by
  induction x with
  | nil => simp [pieces]
  | cons c x ih =>
    by_cases h : c = 47
    · simp [pieces, h, ih]
    · obtain ⟨a, t, e⟩ := pieces_cons x
      simp [pieces, h, ih, e]
theorem pieces_none {x : List UInt8} (h : (47 : UInt8) ∉ x) : pieces x = [x] := by
  induction x with
  | nil => rfl
  | cons c x ih =>
    simp at h
    have h1 : ¬ c = 47 := fun e => h.1 e.symm
    simp [pieces, h1, ih h.2]
theorem pieces_first {x : List UInt8} (y : List UInt8) (h : (47 : UInt8) ∉ x) : pieces (x ++ 47 :: y) = x :: pieces y := by rw [pieces_slash, pieces_none h]; rfl
theorem pieces_no {l p : List UInt8} (h : p ∈ pieces l) : (47 : UInt8) ∉ p := by
  induction l generalizing p with
  | nil => simp [pieces] at h; subst h; simp
  | cons c l ih =>
    obtain ⟨a, t, e⟩ := pieces_cons l
    by_cases hc : c = 47
    · simp [pieces, hc] at h
      rcases h with rfl | h
      · simp
      · exact ih h
    · simp [pieces, hc, e] at h
      rcases h with rfl | h
      · have := ih (p := a) (by rw [e]; simp)
        simp [this]
        exact fun e => hc e.symm
      · exact ih (by rw [e]; simp [h])
theorem pieces_short {l p : List UInt8} (h : p ∈ pieces l) : p.length ≤ l.length := by
  induction l generalizing p with
  | nil => simp [pieces] at h; subst h; simp
  | cons c l ih =>
    obtain ⟨a, t, e⟩ := pieces_cons l
    by_cases hc : c = 47
    · simp [pieces, hc] at h
      rcases h with rfl | h
      · simp
      · have := ih h; simp; omega
    · simp [pieces, hc, e] at h
      rcases h with rfl | h
      · have := ih (p := a) (by rw [e]; simp); simp; omega
      · have := ih (p := p) (by rw [e]; simp [h]); simp; omega
theorem pieces_count (l : List UInt8) : (pieces l).length ≤ l.length + 1 := by
  induction l with
  | nil => simp [pieces]
  | cons c l ih =>
    obtain ⟨a, t, e⟩ := pieces_cons l
    rw [e] at ih
    by_cases hc : c = 47
    · simp [pieces, hc, e] at ih ⊢; omega
    · simp [pieces, hc, e] at ih ⊢; omega

/-- Parts with slashes between. -/
def joinS (L : List (List UInt8)) : List UInt8 := Lib.join L [47]
theorem joinS_nil : joinS [] = [] := rfl
theorem joinS_one (x : List UInt8) : joinS [x] = x := Lib.join_one x [47]
theorem joinS_cons (x y : List UInt8) (L : List (List UInt8)) : joinS (x :: y :: L) = x ++ 47 :: joinS (y :: L) := by
  unfold joinS
  rw [Lib.join_cons, Lib.join_cons]
  simp [Lib.joinTail]
theorem joinS_pieces (l : List UInt8) : joinS (pieces l) = l := by
  induction l with
  | nil => rfl
  | cons c l ih =>
    obtain ⟨a, t, e⟩ := pieces_cons l
    rw [e] at ih
    by_cases hc : c = 47
    · simp [pieces, hc, e]
      rw [joinS_cons, ih]
      rfl
    · simp [pieces, hc, e]
      cases t with
      | nil => rw [joinS_one] at ih ⊢; rw [ih]
      | cons b t => rw [joinS_cons] at ih ⊢; rw [← ih]; rfl
theorem joinS_snoc (L : List (List UInt8)) (x : List UInt8) (h : L ≠ []) : joinS (L ++ [x]) = joinS L ++ 47 :: x := by
  induction L with
  | nil => exact absurd rfl h
  | cons a L ih =>
    cases L with
    | nil => simp [joinS_one, joinS_cons]
    | cons b L => 
      have := ih (by simp)
      simp only [List.cons_append] at this ⊢
      rw [joinS_cons, joinS_cons, this]
      simp
theorem pieces_join (L : List (List UInt8)) (h : L ≠ []) (hs : ∀ p ∈ L, (47 : UInt8) ∉ p) : pieces (joinS L) = L := by
  induction L with
  | nil => exact absurd rfl h
  | cons a L ih =>
    cases L with
    | nil => rw [joinS_one]; exact pieces_none (hs a (by simp))
    | cons b L => rw [joinS_cons, pieces_first _ (hs a (by simp)), ih (by simp) (fun p hp => hs p (by simp at hp ⊢; exact .inr hp))]
theorem pieces_join_ge (L : List (List UInt8)) (h : L ≠ []) : L.length ≤ (pieces (joinS L)).length ∧ ((pieces (joinS L)).length = L.length → pieces (joinS L) = L) := by
  induction L with
  | nil => exact absurd rfl h
  | cons a L ih =>
    have h1 : ∀ x : List UInt8, 1 ≤ (pieces x).length ∧ ((pieces x).length = 1 → pieces x = [x]) := fun x => by
      obtain ⟨c, t, e⟩ := pieces_cons x
      have hj := joinS_pieces x
      rw [e] at hj ⊢
      refine ⟨by simp, fun hl => ?_⟩
      have ht : t = [] := by simpa using hl
      subst ht
      rw [joinS_one] at hj
      rw [hj]
    cases L with
    | nil => rw [joinS_one]; exact h1 a
    | cons b L =>
      obtain ⟨i1, i2⟩ := ih (by simp)
      obtain ⟨j1, j2⟩ := h1 a
      rw [joinS_cons, pieces_slash]
      refine ⟨by simp at i1 ⊢; omega, fun hl => ?_⟩
      rw [List.length_append] at hl
      simp only [List.length_cons] at hl i1
      rw [j2 (by omega), i2 (by simp; omega)]
      rfl

/-- The parts of what stands behind the first slash. -/
def partsL (r : List UInt8) : List (List UInt8) := if r = [] then [] else pieces r
/-- May a path have that part? -/
def mayB (p : List UInt8) : Bool := nameB (nm (mkS p)) && (!decide (p = [46]) && !decide (p = [46, 46]))
theorem mayB_pos {p : List UInt8} (h : mayB p = true) : p ≠ [] := by
  rintro rfl
  simp [mayB, nameB, mkS, nm] at h
/-- The parts of a path, or that it is none. -/
def splitL : List UInt8 → Option (List (List UInt8))
  | [] => none
  | c :: r => if c = 47 ∧ r.length < 500 ∧ (partsL r).all mayB = true then some (partsL r) else none
def joinP (L : List (List UInt8)) : List UInt8 := 47 :: joinS L
theorem joinP_parts (r : List UInt8) : joinP (partsL r) = 47 :: r := by
  unfold joinP partsL
  split
  · rename_i h; subst h; rfl
  · rw [joinS_pieces]
theorem split_some {l : List UInt8} {L : List (List UInt8)} (h : splitL l = some L) : joinP L = l ∧ (∀ p ∈ L, mayB p = true) ∧ l.length ≤ 500 := by
  cases l with
  | nil => cases h
  | cons c r =>
    simp only [splitL] at h
    split at h
    · rename_i hc
      cases h
      rw [hc.1]
      exact ⟨joinP_parts r, fun p hp => (List.all_eq_true.1 hc.2.2) p hp, by simp; omega⟩
    · cases h
theorem split_long {l : List UInt8} (h : 500 < l.length) : splitL l = none := by
  cases l with
  | nil => rfl
  | cons c r =>
    simp only [splitL]
    rw [if_neg]
    rintro ⟨_, h1, _⟩
    simp at h
    omega
theorem parts_short {r p : List UInt8} (h : p ∈ partsL r) : p.length ≤ r.length := by
  unfold partsL at h
  split at h
  · cases h
  · exact pieces_short h
theorem parts_count (r : List UInt8) : (partsL r).length ≤ r.length + 1 := by
  unfold partsL
  split
  · simp
  · exact pieces_count r

theorem pieces_tail (l : List UInt8) : (47 : UInt8) ∈ l → ∃ x y, l = x ++ 47 :: y ∧ (47 : UInt8) ∉ x := by
  induction l with
  | nil => intro h; cases h
  | cons c l ih =>
    intro h
    by_cases hc : c = 47
    · exact ⟨[], l, by simp [hc], by simp⟩
    · obtain ⟨x, y, e, hx⟩ := ih (by rcases List.mem_cons.1 h with e | h; exact absurd e.symm hc; exact h)
      refine ⟨c :: x, y, by rw [e]; rfl, ?_⟩
      simp [hx]
      exact fun e => hc e.symm
/-- strings.Cut at the first slash. -/
def cutA (l : List UInt8) : List UInt8 := l.takeWhile (· ≠ 47)
def cutB (l : List UInt8) : List UInt8 := (l.dropWhile (· ≠ 47)).drop 1
theorem cut_yes {x : List UInt8} (y : List UInt8) (h : (47 : UInt8) ∉ x) : cutA (x ++ 47 :: y) = x ∧ cutB (x ++ 47 :: y) = y := by
  induction x with
  | nil => simp [cutA, cutB]
  | cons c x ih =>
    simp at h
    have hc : ¬ c = 47 := fun e => h.1 e.symm
    obtain ⟨i1, i2⟩ := ih h.2
    simp [cutA, cutB] at i1 i2
    simp [cutA, cutB, hc, i1, i2]
theorem cut_no {x : List UInt8} (h : (47 : UInt8) ∉ x) : cutA x = x ∧ cutB x = [] := by
  induction x with
  | nil => simp [cutA, cutB]
  | cons c x ih =>
    simp at h
    have hc : ¬ c = 47 := fun e => h.1 e.symm
    obtain ⟨i1, i2⟩ := ih h.2
    simp [cutA, cutB] at i1 i2
    simp [cutA, cutB, hc, i1, i2]
theorem pieces_step (l : List UInt8) : pieces l = cutA l :: (if (47 : UInt8) ∈ l then pieces (cutB l) else []) := by
  by_cases h : (47 : UInt8) ∈ l
  · obtain ⟨x, y, rfl, hx⟩ := pieces_tail l h
    obtain ⟨i1, i2⟩ := cut_yes y hx
    rw [i1, i2, if_pos h, pieces_first y hx]
  · rw [if_neg h, (cut_no h).1, pieces_none h]
theorem idx_cut (l : List UInt8) : (¬ (47 : UInt8) ∈ l ∧ Lib.indexByte l 47 = -1) ∨ ((47 : UInt8) ∈ l ∧ ∃ i : Nat, Lib.indexByte l 47 = i ∧ i < l.length ∧ cutA l = l.take i ∧ cutB l = l.drop (i + 1)) := by
  induction l with
  | nil => exact .inl ⟨by simp, rfl⟩
  | cons c l ih =>
    by_cases hc : c = 47
    · refine .inr ⟨by simp [hc], 0, by simp [Lib.indexByte, hc], by simp, by simp [cutA, hc], by simp [cutB, hc]⟩
    · have hne : ¬ (47 : UInt8) = c := fun e => hc e.symm
      rcases ih with ⟨h1, h2⟩ | ⟨h1, i, h2, h3, h4, h5⟩
      · exact .inl ⟨by simp [h1, hne], by simp [Lib.indexByte, hc, h2]⟩
      · refine .inr ⟨by simp [h1], i + 1, ?_, by simp; omega, ?_, ?_⟩
        · have : ¬ (i : Int) = -1 := by omega
          simp [Lib.indexByte, hc, h2, this]
        · simp [cutA] at h4 ⊢
          simp [hc, h4]
        · simp [cutB] at h5 ⊢
          simp [hc, h5]
theorem mkS_extract (l : List UInt8) (a b : Nat) : (mkS l).extract a b = mkS ((l.take b).drop a) := by
  apply ofS_inj
  rw [of_mk]
  simp [ofS, mkS, ByteArray.extract, ByteArray.copySlice, List.drop_take]
theorem mkS_append (l m : List UInt8) : mkS l ++ mkS m = mkS (l ++ m) := by
  apply ofS_inj
  rw [of_mk]
  simp [ofS, mkS]
theorem cut_short (l : List UInt8) : (cutA l).length ≤ l.length ∧ (cutB l).length ≤ l.length := by
  rcases idx_cut l with ⟨h, _⟩ | ⟨_, i, _, h3, h4, h5⟩
  · obtain ⟨i1, i2⟩ := cut_no h
    rw [i1, i2]; simp
  · rw [h4, h5]
    simp
    omega
end Go.Proofs.Ytbahbhaoimabdaa
