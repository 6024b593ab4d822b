/-
  The changes between two rows, by the runs of unlike places: how the reference finds them, and that they make the one of the other. Lists alone.
-/
import Derived.Test.YtjljklfahmjngaaPaSee
namespace Go.Proofs.Ytjljklfahmjngaa
open Go Go.Proofs Go.RowKit Go.Shelf
/-- The changes of runs, numbered from c on. -/
def dfR (ys : List Int) : Nat → List (Nat × Nat) → List (Int × Int × List Int)
  | _, [] => []
  | c, r :: R => ((c : Int), (r.1 : Int), (ys.drop r.1).take (r.2 - r.1)) :: dfR ys (c + 1) R
theorem dfR_range (ys : List Int) (R : List (Nat × Nat)) : ∀ c, (List.range R.length).map (fun (j : Nat) => (((c + j : Nat) : Int), ((R.getD j (0, 0)).1 : Int), (ys.drop (R.getD j (0, 0)).1).take ((R.getD j (0, 0)).2 - (R.getD j (0, 0)).1))) = dfR ys c R := by
  induction R with
  | nil => intro c; rfl
  | cons r R ih =>
    intro c
    rw [List.length_cons, List.range_succ_eq_map, List.map_cons, List.map_map]
    unfold dfR
    rw [← ih (c + 1)]
    congr 1
    apply List.map_congr_left
    intro j _
    simp only [Function.comp, List.getD_cons_succ]
    rw [show c + (j + 1) = c + 1 + j by omega]
theorem dfS_all (ys : List Int) (R : List (Nat × Nat)) : dfS ys R R.length = dfR ys 0 R := by
  rw [← dfR_range ys R 0]
  unfold dfS
  apply List.map_congr_left
  intro j _
  rw [Nat.zero_add]
/-- One place of the reference's walk: what is told so far, and whether a run is open. -/
def rdAt (u : Nat → Bool) (ys : List Int) (st : List (Int × Int × List Int) × Bool) (i : Nat) : List (Int × Int × List Int) × Bool :=
  if u i = false then (st.1, false)
  else if st.2 = true then (st.1.dropLast ++ [((st.1.getLastD (0, 0, [])).1, (st.1.getLastD (0, 0, [])).2.1, (st.1.getLastD (0, 0, [])).2.2 ++ [ys.getD i 0])], true)
  else (st.1 ++ [(((st.1.length : Nat) : Int), (i : Int), [ys.getD i 0])], true)
theorem rd_no {u : Nat → Bool} {ys : List Int} {st : List (Int × Int × List Int) × Bool} {i : Nat} (h : u i = false) : rdAt u ys st i = (st.1, false) := by
  unfold rdAt
  rw [if_pos h]
theorem rd_new {u : Nat → Bool} {ys : List Int} {S : List (Int × Int × List Int)} {i : Nat} (h : u i = true) : rdAt u ys (S, false) i = (S ++ [(((S.length : Nat) : Int), (i : Int), [ys.getD i 0])], true) := by
  unfold rdAt
  rw [if_neg (by simp [h]), if_neg (by simp)]
theorem rd_more {u : Nat → Bool} {ys : List Int} {S : List (Int × Int × List Int)} {s : Int × Int × List Int} {i : Nat} (h : u i = true) : rdAt u ys (S ++ [s], true) i = (S ++ [(s.1, s.2.1, s.2.2 ++ [ys.getD i 0])], true) := by
  unfold rdAt
  rw [if_neg (by simp [h]), if_pos rfl]
  simp
theorem part_snoc (ys : List Int) (a e : Nat) (h1 : a ≤ e) (h2 : e < ys.length) : (ys.drop a).take (e - a) ++ [ys.getD e 0] = (ys.drop a).take (e + 1 - a) := by
  have h3 : e - a < (ys.drop a).length := by rw [List.length_drop]; omega
  rw [show e + 1 - a = (e - a) + 1 by omega, take_snoc _ _ h3]
  congr 2
  simp only [List.getD_eq_getElem?_getD, List.getElem?_drop]
  rw [show a + (e - a) = e by omega]
theorem rd_run (N : Nat) (u : Nat → Bool) (ys : List Int) (hl : ys.length = N) (S : List (Int × Int × List Int)) (c : Int) (a e : Nat) (ha : a ≤ e) (he : e ≤ N) :
    (List.range' e (endN N u e - e)).foldl (rdAt u ys) (S ++ [(c, (a : Int), (ys.drop a).take (e - a))], true) = (S ++ [(c, (a : Int), (ys.drop a).take (endN N u e - a))], true) := by
  induction e using endN.induct N u with
  | case1 e h ih =>
    have h1 := endN_le N u (e + 1)
    rw [endN_step h.1 h.2, show endN N u (e + 1) - e = (endN N u (e + 1) - (e + 1)) + 1 by omega, List.range'_succ, List.foldl_cons, rd_more h.2]
    have := ih (by omega) h.1
    rw [← part_snoc ys a e ha (by omega)] at this
    exact this
  | case2 e h =>
    rw [endN_stop h, Nat.sub_self]
    rfl
theorem rd_all (N : Nat) (u : Nat → Bool) (ys : List Int) (hl : ys.length = N) (a : Nat) (ha : a ≤ N + 1) : ∀ S, ((List.range' a (N - a)).foldl (rdAt u ys) (S, false)).1 = S ++ dfR ys S.length (runsN N u a) := by
  induction a using runsN.induct N u with
  | case1 a h hu ih =>
    intro S
    have h1 := endN_le N u (a + 1)
    have h2 := endN_ge N u (a + 1) h
    rw [runs_yes h hu, show N - a = (N - (a + 1)) + 1 by omega, List.range'_succ, List.foldl_cons, rd_new hu]
    obtain ⟨E, hE⟩ : ∃ E, E = endN N u (a + 1) := ⟨_, rfl⟩
    have hrun := rd_run N u ys hl S ((S.length : Nat) : Int) a (a + 1) (by omega) h
    have hone : (ys.drop a).take (a + 1 - a) = [ys.getD a 0] := by
      have := part_snoc ys a a (Nat.le_refl _) (by omega)
      rw [Nat.sub_self] at this
      exact this.symm
    rw [hone] at hrun
    rw [← hE] at h1 h2 hrun ih ⊢
    have hsp : List.range' (a + 1) (N - (a + 1)) = List.range' (a + 1) (E - (a + 1)) ++ List.range' E (N - E) := by
      have := List.range'_append_1 (s := a + 1) (m := E - (a + 1)) (n := N - E)
      rw [show a + 1 + (E - (a + 1)) = E by omega, show E - (a + 1) + (N - E) = N - (a + 1) by omega] at this
      exact this.symm
    rw [hsp, List.foldl_append, hrun]
    by_cases hN : E < N
    · have hz : u E = false := by
        have := endN_end N u (a + 1)
        rw [← hE] at this
        cases hh : u E with
        | false => rfl
        | true => exact absurd ⟨hN, hh⟩ this
      rw [show N - E = (N - (E + 1)) + 1 by omega, List.range'_succ, List.foldl_cons, rd_no hz, ih (by omega)]
      have e2 : dfR ys S.length ((a, E) :: runsN N u (E + 1)) = (((S.length : Nat) : Int), (a : Int), (ys.drop a).take (E - a)) :: dfR ys (S.length + 1) (runsN N u (E + 1)) := rfl
      rw [e2, List.length_append, List.append_assoc]
      rfl
    · have hNE : N - E = 0 := by omega
      rw [hNE, runs_end (by omega)]
      rfl
  | case2 a h hu ih =>
    intro S
    rw [runs_no h (by simpa using hu), show N - a = (N - (a + 1)) + 1 by omega, List.range'_succ, List.foldl_cons, rd_no (by simpa using hu)]
    exact ih (by omega) S
  | case3 a h =>
    intro S
    rw [runs_end h, show N - a = 0 by omega]
    simp [dfR]
/-- The reference's changes are the runs'. -/
theorem rd_is (N : Nat) (u : Nat → Bool) (ys : List Int) (hl : ys.length = N) : ((List.range N).foldl (rdAt u ys) ([], false)).1 = dfS ys (runsN N u 0) (runsN N u 0).length := by
  rw [dfS_all, List.range_eq_range']
  have := rd_all N u ys hl 0 (by omega) []
  rw [Nat.sub_zero] at this
  simpa using this
theorem runs_cover (N : Nat) (u : Nat → Bool) (a : Nat) : ∀ i, a ≤ i → i < N → u i = true → ∃ r ∈ runsN N u a, r.1 ≤ i ∧ i < r.2 := by
  induction a using runsN.induct N u with
  | case1 a h hu ih =>
    intro i h1 h2 h3
    rw [runs_yes h hu]
    by_cases hi : i < endN N u (a + 1)
    · exact ⟨_, List.mem_cons_self, h1, hi⟩
    · have hne : i ≠ endN N u (a + 1) := fun e => endN_end N u (a + 1) (e ▸ ⟨h2, h3⟩)
      obtain ⟨r, hr, h⟩ := ih i (by omega) h2 h3
      exact ⟨r, List.mem_cons_of_mem _ hr, h⟩
  | case2 a h hu ih =>
    intro i h1 h2 h3
    have hne : i ≠ a := fun e => hu (e ▸ h3)
    rw [runs_no h (by simpa using hu)]
    exact ih i (by omega) h2 h3
  | case3 a h =>
    intro i h1 h2 h3
    omega
theorem apply_runs (ys : List Int) (R : List (Nat × Nat)) (hR : ∀ r ∈ R, r.1 < r.2 ∧ r.2 ≤ ys.length) : ∀ (c : Nat) (bs : List Int), bs.length = ys.length → ∀ i, i < bs.length → (applyS bs (dfR ys c R)).length = bs.length ∧ (applyS bs (dfR ys c R)).getD i 0 = if R.any (fun r => decide (r.1 ≤ i ∧ i < r.2)) = true then ys.getD i 0 else bs.getD i 0 := by
  induction R with
  | nil => intro c bs hb i hi; exact ⟨rfl, rfl⟩
  | cons r R ih =>
    intro c bs hb i hi
    have e : applyS bs (dfR ys c (r :: R)) = applyS (layL bs (r.1 : Int) ((ys.drop r.1).take (r.2 - r.1))) (dfR ys (c + 1) R) := rfl
    have hlen : (layL bs (r.1 : Int) ((ys.drop r.1).take (r.2 - r.1))).length = bs.length := layL_length _ _ _
    obtain ⟨h1, h2⟩ := ih (fun r hr => hR r (List.mem_cons_of_mem _ hr)) (c + 1) (layL bs (r.1 : Int) ((ys.drop r.1).take (r.2 - r.1))) (by omega) i (by omega)
    obtain ⟨q1, q2⟩ := hR r List.mem_cons_self
    have hpl : ((ys.drop r.1).take (r.2 - r.1)).length = r.2 - r.1 := by rw [List.length_take, List.length_drop]; omega
    rw [e]
    refine ⟨by omega, ?_⟩
    rw [h2, List.any_cons]
    by_cases hany : R.any (fun r => decide (r.1 ≤ i ∧ i < r.2)) = true
    · rw [if_pos hany, if_pos (by rw [hany]; simp)]
    · rw [if_neg hany, layL_get _ _ _ _ hi, hpl]
      by_cases hir : r.1 ≤ i ∧ i < r.2
      · rw [if_pos (by omega), if_pos (by simp [hir])]
        simp only [List.getD_eq_getElem?_getD, List.getElem?_take, List.getElem?_drop]
        rw [if_pos (by omega)]
        congr 2
        omega
      · rw [if_neg (by omega), if_neg (by rw [decide_eq_false hir, Bool.false_or]; exact hany)]
/-- They make the one of the other. -/
theorem apply_diff (N : Nat) (xs ys : List Int) (hx : xs.length = N) (hy : ys.length = N) : applyS xs (dfS ys (runsN N (unB xs ys) 0) (runsN N (unB xs ys) 0).length) = ys := by
  rw [dfS_all]
  have hR : ∀ r ∈ runsN N (unB xs ys) 0, r.1 < r.2 ∧ r.2 ≤ ys.length := fun r hr => by have := runs_mem _ _ _ r hr; omega
  by_cases h0 : N = 0
  · subst h0
    rw [runs_end (by omega), List.eq_nil_of_length_eq_zero hx, List.eq_nil_of_length_eq_zero hy]
    rfl
  have hlen := (apply_runs ys _ hR 0 xs (by omega) 0 (by omega)).1
  refine list_ext (by omega) (fun i hi => ?_)
  rw [hlen] at hi
  rw [(apply_runs ys _ hR 0 xs (by omega) i hi).2]
  by_cases hany : (runsN N (unB xs ys) 0).any (fun r => decide (r.1 ≤ i ∧ i < r.2)) = true
  · rw [if_pos hany]
  · rw [if_neg hany]
    by_cases hu : unB xs ys i = true
    · obtain ⟨r, hr, h1, h2⟩ := runs_cover N (unB xs ys) 0 i (Nat.zero_le _) (by omega) hu
      exact absurd (List.any_eq_true.2 ⟨r, hr, by simp [h1, h2]⟩) hany
    · unfold unB at hu
      simpa using hu
end Go.Proofs.Ytjljklfahmjngaa
