/-
  May what is out be made behind the others: going by where the changes begin, lists alone.
-/
import Derived.Test.YtjljklfahmjngaaPaSortK2
import Derived.Test.YtjljklfahmjngaaPaRSafe
namespace Go.Proofs.Ytjljklfahmjngaa
open Go Go.Proofs Go.RowKit Go.Shelf
abbrev pt (L : List Pt) (i : Nat) : Pt := L.getD i noP
def lpB (p q : Pt) : Bool := lapB p.at' p.n q.at' q.n
theorem lpB_comm (p q : Pt) : lpB p q = lpB q p := lapB_comm _ _ _ _
/-- Between two changes: those that are out and those that stay, as far as they may lap with one to come. -/
structure SfI (L : List Pt) (outs : List Int) (s : Nat) (G S : List (Int × Pt)) : Prop where
  gin : ∀ x ∈ G, ∃ i ∈ (ordL L).take s, x = ((i : Int), pt L i) ∧ (pt L i).id ∈ outs
  sin : ∀ x ∈ S, ∃ i ∈ (ordL L).take s, x = (-(i : Int), pt L i) ∧ (pt L i).id ∉ outs
  gall : ∀ i ∈ (ordL L).take s, (pt L i).id ∈ outs → ((i : Int), pt L i) ∈ G ∨ ∀ j ∈ (ordL L).drop s, lpB (pt L i) (pt L j) = false
  sall : ∀ i ∈ (ordL L).take s, (pt L i).id ∉ outs → (-(i : Int), pt L i) ∈ S ∨ ∀ j ∈ (ordL L).drop s, lpB (pt L i) (pt L j) = false
  ok : ∀ i ∈ (ordL L).take s, ∀ k ∈ (ordL L).take s, k < i → okP outs (pt L i) (pt L k) = true
section
variable {L : List Pt} {outs : List Int} {s i0 : Nat} {G S G' S' D : List (Int × Pt)}
theorem sf_none : SfI L outs 0 [] [] := ⟨fun x h => (by cases h), fun x h => (by cases h), fun i h => (by simp at h), fun i h => (by simp at h), fun i h => (by simp at h)⟩
theorem ord_n {i : Nat} (h : i ∈ ordL L) : 0 < (pt L i).n ∧ i < L.length := by
  have := ix_lt ((ord_perm L).mem_iff.1 h)
  exact ⟨this.2, this.1⟩
/-- What ends ahead of one laps with none behind it. -/
theorem dead {p q r : Pt} (hn : 0 < q.n) (h1 : p.at' ≤ q.at') (h2 : q.at' ≤ r.at') (h : lpB p q = false) : lpB p r = false := by
  unfold lpB lapB at *
  rw [decide_eq_false_iff_not] at *
  omega
theorem ord_split (hs : s < (ordL L).length) (hi : i0 = (ordL L).getD s 0) : (ordL L).take (s + 1) = (ordL L).take s ++ [i0] ∧ (ordL L).drop s = i0 :: (ordL L).drop (s + 1) := by
  have e : (ordL L)[s] = i0 := by rw [hi, List.getD_eq_getElem?_getD, List.getElem?_eq_getElem hs]; rfl
  constructor
  · rw [List.take_succ_eq_append_getElem hs, e]
  · rw [List.drop_eq_getElem_cons hs, e]
theorem ord_le (hs : s < (ordL L).length) (hi : i0 = (ordL L).getD s 0) : (∀ i ∈ (ordL L).take s, (pt L i).at' ≤ (pt L i0).at') ∧ ∀ j ∈ (ordL L).drop (s + 1), (pt L i0).at' ≤ (pt L j).at' := by
  obtain ⟨e1, e2⟩ := ord_split hs hi
  have hp := ord_sorted L
  have e : ordL L = (ordL L).take s ++ (i0 :: (ordL L).drop (s + 1)) := by rw [← e2, List.take_append_drop]
  rw [e] at hp
  obtain ⟨_, h2, h3⟩ := List.pairwise_append.1 hp
  exact ⟨fun i hi => h3 i hi i0 (by simp), fun j hj => (List.pairwise_cons.1 h2).1 j hj⟩
theorem in_take {i : Nat} (h : i ∈ (ordL L).take s) : i ∈ ordL L := List.mem_of_mem_take h
/-- One that is out comes up. -/
theorem sf_out (h : SfI L outs s G S) (hs : s < (ordL L).length) (hi : i0 = (ordL L).getD s 0) (ho : (pt L i0).id ∈ outs) (hp : (S' ++ D).Perm S) (hD : ∀ d ∈ D, lpB d.2 (pt L i0) = false) (hno : ∀ x ∈ S', -x.1 ≤ (i0 : Int)) (hg : G'.Perm (G ++ [((i0 : Int), pt L i0)])) : SfI L outs (s + 1) G' S' := by
  obtain ⟨e1, e2⟩ := ord_split hs hi
  obtain ⟨l1, l2⟩ := ord_le hs hi
  have hin : i0 ∈ ordL L := by rw [← List.take_append_drop s (ordL L), e2]; simp
  have hn := (ord_n hin).1
  have live : ∀ i ∈ (ordL L).take s, (pt L i).id ∉ outs → (-(i : Int), pt L i) ∈ S' ∨ ((∀ j ∈ (ordL L).drop (s + 1), lpB (pt L i) (pt L j) = false) ∧ lpB (pt L i) (pt L i0) = false) := fun i hi hni => by
    rcases h.sall i hi hni with q | q
    · rcases List.mem_append.1 (hp.mem_iff.2 q) with q | q
      · exact .inl q
      · have hd := hD _ q
        exact .inr ⟨fun j hj => dead hn (l1 i hi) (l2 j hj) hd, hd⟩
    · exact .inr ⟨fun j hj => q j (by rw [e2]; exact List.mem_cons_of_mem _ hj), q i0 (by rw [e2]; simp)⟩
  refine ⟨fun x hx => ?_, fun x hx => ?_, fun i hi2 hio => ?_, fun i hi2 hio => ?_, fun i hi2 k hk hki => ?_⟩
  · rcases List.mem_append.1 (hg.mem_iff.1 hx) with q | q
    · obtain ⟨i, q1, q2⟩ := h.gin x q
      exact ⟨i, by rw [e1]; exact List.mem_append_left _ q1, q2⟩
    · rw [List.mem_singleton.1 q]
      exact ⟨i0, by rw [e1]; simp, rfl, ho⟩
  · obtain ⟨i, q1, q2⟩ := h.sin x (hp.mem_iff.1 (List.mem_append_left _ hx))
    exact ⟨i, by rw [e1]; exact List.mem_append_left _ q1, q2⟩
  · rw [e1] at hi2
    rcases List.mem_append.1 hi2 with q | q
    · rcases h.gall i q hio with r | r
      · exact .inl (hg.mem_iff.2 (List.mem_append_left _ r))
      · exact .inr (fun j hj => r j (by rw [e2]; exact List.mem_cons_of_mem _ hj))
    · rw [List.mem_singleton.1 q]
      exact .inl (hg.mem_iff.2 (by simp))
  · rw [e1] at hi2
    rcases List.mem_append.1 hi2 with q | q
    · rcases live i q hio with r | r
      · exact .inl r
      · exact .inr r.1
    · rw [List.mem_singleton.1 q] at hio
      exact absurd ho hio
  · rw [e1] at hi2 hk
    unfold okP
    rcases List.mem_append.1 hi2 with q | q
    · rcases List.mem_append.1 hk with r | r
      · exact h.ok i q k r hki
      · rw [List.mem_singleton.1 r] at hki ⊢
        by_cases hio : (pt L i).id ∈ outs
        · rw [decide_eq_true hio]; rfl
        · rcases live i q hio with z | z
          · have := hno _ z
            simp only at this
            omega
          · have : lapB (pt L i).at' (pt L i).n (pt L i0).at' (pt L i0).n = false := z.2
            rw [this]
            simp
    · rw [List.mem_singleton.1 q, decide_eq_true ho]
      rfl
/-- One that stays comes up. -/
theorem sf_stay (h : SfI L outs s G S) (hs : s < (ordL L).length) (hi : i0 = (ordL L).getD s 0) (ho : (pt L i0).id ∉ outs) (hp : (G' ++ D).Perm G) (hD : ∀ d ∈ D, lpB d.2 (pt L i0) = false) (hno : ∀ x ∈ G', (i0 : Int) ≤ x.1) (hg : S'.Perm (S ++ [(-(i0 : Int), pt L i0)])) : SfI L outs (s + 1) G' S' := by
  obtain ⟨e1, e2⟩ := ord_split hs hi
  obtain ⟨l1, l2⟩ := ord_le hs hi
  have hin : i0 ∈ ordL L := by rw [← List.take_append_drop s (ordL L), e2]; simp
  have hn := (ord_n hin).1
  have live : ∀ i ∈ (ordL L).take s, (pt L i).id ∈ outs → ((i : Int), pt L i) ∈ G' ∨ ((∀ j ∈ (ordL L).drop (s + 1), lpB (pt L i) (pt L j) = false) ∧ lpB (pt L i) (pt L i0) = false) := fun i hi hni => by
    rcases h.gall i hi hni with q | q
    · rcases List.mem_append.1 (hp.mem_iff.2 q) with q | q
      · exact .inl q
      · have hd := hD _ q
        exact .inr ⟨fun j hj => dead hn (l1 i hi) (l2 j hj) hd, hd⟩
    · exact .inr ⟨fun j hj => q j (by rw [e2]; exact List.mem_cons_of_mem _ hj), q i0 (by rw [e2]; simp)⟩
  refine ⟨fun x hx => ?_, fun x hx => ?_, fun i hi2 hio => ?_, fun i hi2 hio => ?_, fun i hi2 k hk hki => ?_⟩
  · obtain ⟨i, q1, q2⟩ := h.gin x (hp.mem_iff.1 (List.mem_append_left _ hx))
    exact ⟨i, by rw [e1]; exact List.mem_append_left _ q1, q2⟩
  · rcases List.mem_append.1 (hg.mem_iff.1 hx) with q | q
    · obtain ⟨i, q1, q2⟩ := h.sin x q
      exact ⟨i, by rw [e1]; exact List.mem_append_left _ q1, q2⟩
    · rw [List.mem_singleton.1 q]
      exact ⟨i0, by rw [e1]; simp, rfl, ho⟩
  · rw [e1] at hi2
    rcases List.mem_append.1 hi2 with q | q
    · rcases live i q hio with r | r
      · exact .inl r
      · exact .inr r.1
    · rw [List.mem_singleton.1 q] at hio
      exact absurd hio ho
  · rw [e1] at hi2
    rcases List.mem_append.1 hi2 with q | q
    · rcases h.sall i q hio with r | r
      · exact .inl (hg.mem_iff.2 (List.mem_append_left _ r))
      · exact .inr (fun j hj => r j (by rw [e2]; exact List.mem_cons_of_mem _ hj))
    · rw [List.mem_singleton.1 q]
      exact .inl (hg.mem_iff.2 (by simp))
  · rw [e1] at hi2 hk
    unfold okP
    rcases List.mem_append.1 hk with r | r
    · rcases List.mem_append.1 hi2 with q | q
      · exact h.ok i q k r hki
      · rw [List.mem_singleton.1 q] at hki ⊢
        by_cases hio : (pt L k).id ∈ outs
        · rcases live k r hio with z | z
          · have := hno _ z
            simp only at this
            omega
          · have h2 : lpB (pt L i0) (pt L k) = false := by rw [lpB_comm]; exact z.2
            have : lapB (pt L i0).at' (pt L i0).n (pt L k).at' (pt L k).n = false := h2
            rw [this]
            simp
        · rw [decide_eq_false hio]
          simp
    · rw [List.mem_singleton.1 r, decide_eq_false ho]
      simp
/-- A clash. -/
theorem sf_clash {i k : Nat} (hi : i ∈ ordL L) (hki : k < i) (h1 : (pt L i).id ∉ outs) (h2 : (pt L k).id ∈ outs) (h : lpB (pt L i) (pt L k) = true) : safeL L outs = false := by
  refine safe_no (ord_n hi).2 hki ?_
  unfold okP
  have : lapB (pt L i).at' (pt L i).n (pt L k).at' (pt L k).n = true := h
  rw [this, decide_eq_false h1, decide_eq_true h2]
  rfl
theorem sf_end (h : SfI L outs (ordL L).length G S) : safeL L outs = true := by
  have ok := h.ok
  rw [List.take_length] at ok
  unfold safeL rowOk
  rw [List.all_eq_true]
  intro i hi
  rw [List.all_eq_true]
  intro k hk
  have hil := List.mem_range.1 hi
  have hki := List.mem_range.1 hk
  have mem : ∀ j, j < L.length → j ∈ ordL L ∨ (pt L j).n = 0 := fun j hj => by
    by_cases hn : 0 < (pt L j).n
    · exact .inl ((ord_perm L).mem_iff.2 (List.mem_filter.2 ⟨List.mem_range.2 hj, decide_eq_true hn⟩))
    · exact .inr (by omega)
  have no : ∀ p q : Pt, p.n = 0 ∨ q.n = 0 → okP outs p q = true := fun p q hz => by
    unfold okP lapB
    have : decide (0 < p.n ∧ 0 < q.n ∧ p.at' < q.at' + q.n ∧ q.at' < p.at' + p.n) = false := decide_eq_false (by omega)
    rw [this]
    simp
  rcases mem i hil with q | q
  · rcases mem k (by omega) with r | r
    · exact ok i q k r hki
    · exact no _ _ (.inr r)
  · exact no _ _ (.inl q)
end
end Go.Proofs.Ytjljklfahmjngaa
