/-
  What was safely left out, made later, makes what all at once make. Lists alone.
-/
import Derived.Test.YtjljklfahmjngaaPaApply
import Derived.Test.YtjljklfahmjngaaPaRSafe
namespace Go.Proofs.Ytjljklfahmjngaa
open Go Go.Proofs Go.RowKit Go.Shelf
/-- Those that are left out. -/
def outL (L : List Pt) (outs : List Int) : List Pt := L.filter (fun p => decide (p.id ∈ outs))
theorem lay_comm (bs : List Int) (a b : Int) (xs ys : List Int) (h : lapB a xs.length b ys.length = false) : layL (layL bs a xs) b ys = layL (layL bs b ys) a xs := by
  unfold lapB at h
  rw [decide_eq_false_iff_not] at h
  refine list_ext (by simp only [layL_length]) (fun i hi => ?_)
  simp only [layL_length] at hi
  rw [layL_get (layL bs a xs) b ys i (by rw [layL_length]; exact hi), layL_get bs a xs i hi, layL_get (layL bs b ys) a xs i (by rw [layL_length]; exact hi), layL_get bs b ys i hi]
  by_cases h1 : a ≤ i ∧ (i : Int) < a + xs.length
  · by_cases h2 : b ≤ i ∧ (i : Int) < b + ys.length
    · exact absurd (by omega) h
    · simp only [if_pos h1, if_neg h2]
  · by_cases h2 : b ≤ i ∧ (i : Int) < b + ys.length
    · simp only [if_neg h1, if_pos h2]
    · simp only [if_neg h1, if_neg h2]
theorem apply_comm (p : Pt) (hp : p.xs.length = p.n) (Q : List Pt) : ∀ bs, (∀ q ∈ Q, q.xs.length = q.n ∧ lapB p.at' p.n q.at' q.n = false) → applyL (layL bs p.at' p.xs) Q = layL (applyL bs Q) p.at' p.xs := by
  induction Q with
  | nil => intro bs _; rfl
  | cons q Q ih =>
    intro bs h
    obtain ⟨h1, h2⟩ := h q List.mem_cons_self
    show applyL (layL (layL bs p.at' p.xs) q.at' q.xs) Q = layL (applyL (layL bs q.at' q.xs) Q) p.at' p.xs
    rw [lay_comm bs p.at' q.at' p.xs q.xs (by rw [hp, h1]; exact h2)]
    exact ih _ (fun r hr => h r (List.mem_cons_of_mem _ hr))
theorem getP_left (M : List Pt) (p : Pt) (k : Nat) (h : k < M.length) : (M ++ [p]).getD k noP = M.getD k noP := by
  rw [List.getD_eq_getElem?_getD, List.getD_eq_getElem?_getD, List.getElem?_append_left h]
theorem getP_last (M : List Pt) (p : Pt) : (M ++ [p]).getD M.length noP = p := by
  rw [List.getD_eq_getElem?_getD, List.getElem?_append_right (Nat.le_refl _), Nat.sub_self]
  rfl
theorem safe_snoc {M : List Pt} {p : Pt} {outs : List Int} (h : safeL (M ++ [p]) outs = true) : safeL M outs = true ∧ ∀ q ∈ M, okP outs p q = true := by
  unfold safeL at h
  rw [List.all_eq_true] at h
  have hl : (M ++ [p]).length = M.length + 1 := by simp
  constructor
  · unfold safeL
    rw [List.all_eq_true]
    intro i hi
    have hi' := List.mem_range.1 hi
    have h1 := h i (List.mem_range.2 (by omega))
    unfold rowOk at h1 ⊢
    rw [List.all_eq_true] at h1 ⊢
    intro k hk
    have hk' := List.mem_range.1 hk
    have h2 := h1 k hk
    rwa [getP_left M p i hi', getP_left M p k (by omega)] at h2
  · intro q hq
    obtain ⟨k, hk, rfl⟩ := List.getElem_of_mem hq
    have h1 := h M.length (List.mem_range.2 (by omega))
    unfold rowOk at h1
    rw [List.all_eq_true] at h1
    have h2 := h1 k (List.mem_range.2 hk)
    rw [getP_last, getP_left M p k hk, List.getD_eq_getElem?_getD, List.getElem?_eq_getElem hk] at h2
    exact h2
/-- What was safely left out, made later. -/
theorem later_all (outs : List Int) (bs : List Int) : ∀ n (L : List Pt), L.length = n → (∀ p ∈ L, p.xs.length = p.n) → safeL L outs = true → applyL (applyL bs (keptL L outs)) (outL L outs) = applyL bs L := by
  intro n
  induction n with
  | zero =>
    intro L hl _ _
    rw [List.eq_nil_of_length_eq_zero hl]
    rfl
  | succ n ih =>
    intro L hl hx hs
    have hne : L ≠ [] := fun e => by rw [e] at hl; cases hl
    obtain ⟨M, p, rfl⟩ : ∃ M p, L = M ++ [p] := ⟨L.dropLast, L.getLast hne, (List.dropLast_concat_getLast hne).symm⟩
    have hlM : M.length = n := by simpa using hl
    obtain ⟨h1, h2⟩ := safe_snoc hs
    have hM := ih M hlM (fun q hq => hx q (List.mem_append.2 (.inl hq))) h1
    have hk : keptL (M ++ [p]) outs = keptL M outs ++ keptL [p] outs := by unfold keptL; rw [List.filter_append]
    have ho : outL (M ++ [p]) outs = outL M outs ++ outL [p] outs := by unfold outL; rw [List.filter_append]
    by_cases hin : p.id ∈ outs
    · have e1 : keptL [p] outs = [] := by unfold keptL; rw [List.filter_cons, decide_eq_true hin]; rfl
      have e2 : outL [p] outs = [p] := by unfold outL; rw [List.filter_cons, decide_eq_true hin]; rfl
      rw [hk, ho, e1, e2, List.append_nil, applyL_snoc, applyL_snoc, hM]
    · have e1 : keptL [p] outs = [p] := by unfold keptL; rw [List.filter_cons, decide_eq_false hin]; rfl
      have e2 : outL [p] outs = [] := by unfold outL; rw [List.filter_cons, decide_eq_false hin]; rfl
      rw [hk, ho, e1, e2, List.append_nil, applyL_snoc, applyL_snoc, apply_comm p (hx p (by simp)) (outL M outs) _ (fun q hq => ?_), hM]
      obtain ⟨hq1, hq2⟩ := List.mem_filter.1 hq
      refine ⟨hx q (List.mem_append.2 (.inl hq1)), ?_⟩
      have h3 := h2 q hq1
      unfold okP at h3
      rw [decide_eq_false hin, hq2] at h3
      cases hlp : lapB p.at' p.n q.at' q.n with
      | false => rfl
      | true => rw [hlp] at h3; cases h3
theorem kept_none (L : List Pt) : keptL L [] = L := by
  unfold keptL
  rw [List.filter_eq_self]
  intro p _
  simp
end Go.Proofs.Ytjljklfahmjngaa
