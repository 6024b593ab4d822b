/-
  Slots that are taken, given another node, freed: where names stand then, and how the row and the places lie in memory.
-/
import Derived.Test.YtehaoeclnmelhabGreatTrLook
namespace Go.Proofs.YtehaoeclnmelhabGreat
open Go Go.Proofs Go.RowKit Go.Shelf

theorem set_some {s : List Slt} {k i : Nat} {o x : Slt} (h : (s.set k o)[i]? = some x) : (i = k ∧ x = o) ∨ (i ≠ k ∧ s[i]? = some x) := by
  rw [List.getElem?_set] at h
  split at h
  · rename_i e
    split at h
    · cases h; exact .inl ⟨e.symm, rfl⟩
    · cases h
  · rename_i e
    exact .inr ⟨fun e' => e e'.symm, h⟩
theorem set_other {s : List Slt} {k i : Nat} {o : Slt} (h : i ≠ k) : (s.set k o)[i]? = s[i]? := by rw [List.getElem?_set, if_neg (fun e => h e.symm)]
theorem name_lt {s : List Slt} {i a : Nat} {p : List UInt8} (h : s[i]? = some (some (a, p))) : nameAt s p ≤ i := by
  obtain ⟨hi, e⟩ := List.getElem?_eq_some_iff.1 h
  rcases Nat.lt_or_ge i (nameAt s p) with h1 | h1
  · have h2 := List.not_of_lt_findIdx (p := hasB p) (xs := s) h1
    rw [e] at h2
    simp [hasB] at h2
  · exact h1
theorem name_get {s : List Slt} {p : List UInt8} (h : nameAt s p < s.length) : ∃ a, s[nameAt s p]? = some (some (a, p)) := by
  obtain ⟨j, e, _⟩ := name_at h
  rw [List.getD, List.getElem?_eq_getElem h] at e
  refine ⟨j, ?_⟩
  rw [List.getElem?_eq_getElem h]
  exact congrArg some e
/-- Where a name stands, or that it stands nowhere. -/
theorem pf_char (s : List Slt) (p : List UInt8) : (∃ a, nameAt s p < s.length ∧ s[nameAt s p]? = some (some (a, p)) ∧ plF s (.string p) = some (.int .i64 (nameAt s p : Nat)) ∧ lookS s p = some a) ∨ ((∀ (i a : Nat), s[i]? ≠ some (some (a, p))) ∧ plF s (.string p) = none ∧ lookS s p = none) := by
  by_cases h : nameAt s p < s.length
  · obtain ⟨a, e⟩ := name_get h
    obtain ⟨j, e1, e2⟩ := name_at h
    refine .inl ⟨a, h, e, by simp [plF, h], ?_⟩
    rw [List.getD, e] at e1
    simp at e1
    rw [e2, e1]
  · refine .inr ⟨fun i a e => ?_, by simp [plF, h], name_none h⟩
    have := name_lt e
    have := (List.getElem?_eq_some_iff.1 e).1
    omega
theorem names_of {s : List Slt} (h : ∀ (i j a b : Nat) (p : List UInt8), s[i]? = some (some (a, p)) → s[j]? = some (some (b, p)) → i = j) (hl : ∀ a p, some (a, p) ∈ s → p.length ≤ 1000) : namesOk s :=
  ⟨fun i a p e => by
    rcases pf_char s p with ⟨b, _, e2, _⟩ | ⟨h2, _⟩
    · exact h _ _ _ _ _ e2 e
    · exact absurd e (h2 i a), hl⟩
theorem namesOk.inj {s : List Slt} (h : namesOk s) {i j a b : Nat} {p : List UInt8} (h1 : s[i]? = some (some (a, p))) (h2 : s[j]? = some (some (b, p))) : i = j := (h.1 i a p h1).symm.trans (h.1 j b p h2)
theorem pf_at {s : List Slt} (h : namesOk s) {i a : Nat} {p : List UInt8} (e : s[i]? = some (some (a, p))) : plF s (.string p) = some (.int .i64 (i : Nat)) := by
  have h1 := h.1 i a p e
  have h2 := (List.getElem?_eq_some_iff.1 e).1
  simp [plF, h1, h2]
theorem pf_no {s : List Slt} {p : List UInt8} (h : ∀ (i a : Nat), s[i]? ≠ some (some (a, p))) : plF s (.string p) = none := by
  rcases pf_char s p with ⟨a, _, e, _⟩ | ⟨_, e, _⟩
  · exact absurd e (h _ _)
  · exact e
/-- A slot that is freed. -/
theorem names_del {s : List Slt} (h : namesOk s) (k : Nat) : namesOk (s.set k none) := by
  refine names_of (fun i j a b p h1 h2 => ?_) (fun a p hm => ?_)
  · rcases set_some h1 with ⟨_, e⟩ | ⟨_, h1⟩
    · cases e
    rcases set_some h2 with ⟨_, e⟩ | ⟨_, h2⟩
    · cases e
    exact h.inj h1 h2
  · rcases List.mem_or_eq_of_mem_set hm with h1 | h1
    · exact h.2 a p h1
    · cases h1
theorem pf_del {s : List Slt} (h : namesOk s) {p : List UInt8} (hp : nameAt s p < s.length) (q : List UInt8) : updF (plF s) (.string p) none (.string q) = plF (s.set (nameAt s p) none) (.string q) := by
  obtain ⟨a, ea⟩ := name_get hp
  by_cases hq : q = p
  · subst hq
    rw [upd_same, pf_no]
    intro i b e
    rcases set_some e with ⟨_, e⟩ | ⟨hne, e⟩
    · cases e
    · exact hne (h.inj e ea)
  · rw [upd_other _ _ (by simpa using hq)]
    rcases pf_char s q with ⟨b, h1, h2, h3, _⟩ | ⟨h2, h3, _⟩
    · rw [h3, pf_at (names_del h _) (i := nameAt s q) (a := b) (p := q)]
      rw [set_other, h2]
      intro e
      rw [e, ea] at h2
      simp at h2
      exact hq h2.2.symm
    · rw [h3, pf_no]
      intro i b e
      rcases set_some e with ⟨_, e⟩ | ⟨hne, e⟩
      · cases e
      · exact h2 i b e
theorem used_set (s : List Slt) (k : Nat) (o : Slt) (hk : k < s.length) : usedN (s.set k o) + (if (s.getD k none).isSome = true then 1 else 0) = usedN s + (if o.isSome = true then 1 else 0) := by
  induction s generalizing k with
  | nil => simp at hk
  | cons a s ih =>
    cases k with
    | zero =>
      simp only [List.set_cons_zero, usedN, List.filter_cons, List.getD_cons_zero]
      split <;> split <;> simp_all
    | succ k =>
      have := ih k (by simpa using hk)
      simp only [List.set_cons_succ, usedN, List.filter_cons, List.getD_cons_succ] at this ⊢
      split <;> simp_all <;> omega
/-- A name that is given another node. -/
theorem names_put {s : List Slt} (h : namesOk s) {p : List UInt8} (hp : nameAt s p < s.length) (j : Nat) : namesOk (s.set (nameAt s p) (some (j, p))) := by
  obtain ⟨a, ea⟩ := name_get hp
  refine names_of (fun i i' x y q h1 h2 => ?_) (fun x q hm => ?_)
  · rcases set_some h1 with ⟨e1, e⟩ | ⟨n1, h1⟩
    · cases e
      rcases set_some h2 with ⟨e2, e⟩ | ⟨n2, h2⟩
      · rw [e1, e2]
      · exact absurd (h.inj h2 ea) n2
    · rcases set_some h2 with ⟨e2, e⟩ | ⟨n2, h2⟩
      · cases e
        exact absurd (h.inj h1 ea) n1
      · exact h.inj h1 h2
  · rcases List.mem_or_eq_of_mem_set hm with h1 | h1
    · exact h.2 x q h1
    · cases h1
      exact h.2 a p (List.mem_of_getElem? ea)
theorem pf_put {s : List Slt} (h : namesOk s) {p : List UInt8} (hp : nameAt s p < s.length) (j : Nat) (q : List UInt8) : plF s (.string q) = plF (s.set (nameAt s p) (some (j, p))) (.string q) := by
  obtain ⟨a, ea⟩ := name_get hp
  rcases pf_char s q with ⟨b, h1, h2, h3, _⟩ | ⟨h2, h3, _⟩
  · by_cases hq : nameAt s q = nameAt s p
    · rw [hq, ea] at h2
      simp at h2
      obtain ⟨rfl, rfl⟩ := h2
      rw [pf_at (names_put h hp j) (i := nameAt s p) (a := j) (by simp [hp])]
      exact h3
    · rw [h3, pf_at (names_put h hp j) (i := nameAt s q) (a := b)]
      rw [set_other hq, h2]
  · rw [h3, pf_no]
    intro i b e
    rcases set_some e with ⟨_, e⟩ | ⟨hne, e⟩
    · cases e
      exact h2 _ _ ea
    · exact h2 i b e
/-- A name that was not there takes a free slot. -/
theorem names_add {s : List Slt} (h : namesOk s) {p : List UInt8} (hp : ¬ nameAt s p < s.length) (hl : p.length ≤ 1000) (k j : Nat) : namesOk (s.set k (some (j, p))) := by
  have h0 : ∀ (i a : Nat), s[i]? ≠ some (some (a, p)) := by
    rcases pf_char s p with ⟨b, h1, _⟩ | ⟨h2, _⟩
    · exact absurd h1 hp
    · exact h2
  refine names_of (fun i i' x y q h1 h2 => ?_) (fun x q hm => ?_)
  · rcases set_some h1 with ⟨e1, e⟩ | ⟨n1, h1⟩
    · cases e
      rcases set_some h2 with ⟨e2, e⟩ | ⟨n2, h2⟩
      · rw [e1, e2]
      · exact absurd h2 (h0 _ _)
    · rcases set_some h2 with ⟨e2, e⟩ | ⟨n2, h2⟩
      · cases e
        exact absurd h1 (h0 _ _)
      · exact h.inj h1 h2
  · rcases List.mem_or_eq_of_mem_set hm with h1 | h1
    · exact h.2 x q h1
    · cases h1
      exact hl
theorem pf_add {s : List Slt} (h : namesOk s) {p : List UInt8} (hp : ¬ nameAt s p < s.length) (hl : p.length ≤ 1000) {k : Nat} (hk : k < s.length) (hf : s.getD k none = none) (j : Nat) (q : List UInt8) : updF (plF s) (.string p) (some (.int .i64 (k : Nat))) (.string q) = plF (s.set k (some (j, p))) (.string q) := by
  by_cases hq : q = p
  · subst hq
    rw [upd_same, pf_at (names_add h hp hl k j) (i := k) (a := j) (by simp [hk])]
  · rw [upd_other _ _ (by simpa using hq)]
    rcases pf_char s q with ⟨b, h1, h2, h3, _⟩ | ⟨h2, h3, _⟩
    · rw [h3, pf_at (names_add h hp hl k j) (i := nameAt s q) (a := b)]
      rw [set_other, h2]
      intro e
      rw [List.getD, ← e, h2] at hf
      cases hf
    · rw [h3, pf_no]
      intro i b e
      rcases set_some e with ⟨_, e⟩ | ⟨hne, e⟩
      · cases e
        exact hq rfl
      · exact h2 i b e
theorem get_more (s : List Slt) (n i : Nat) (a : Nat) (p : List UInt8) : (s ++ List.replicate n none)[i]? = some (some (a, p)) ↔ s[i]? = some (some (a, p)) := by
  rcases Nat.lt_or_ge i s.length with h | h
  · rw [List.getElem?_append_left h]
  · rw [List.getElem?_append_right h, List.getElem?_eq_none (l := s) h, List.getElem?_replicate]
    split <;> simp
theorem names_more {s : List Slt} (h : namesOk s) (n : Nat) : namesOk (s ++ List.replicate n none) := by
  refine names_of (fun i i' x y q h1 h2 => h.inj ((get_more _ _ _ _ _).1 h1) ((get_more _ _ _ _ _).1 h2)) (fun x q hm => ?_)
  rcases List.mem_append.1 hm with h1 | h1
  · exact h.2 x q h1
  · have := List.eq_of_mem_replicate h1
    cases this
theorem pf_more {s : List Slt} (h : namesOk s) (n : Nat) (q : List UInt8) : plF (s ++ List.replicate n none) (.string q) = plF s (.string q) := by
  rcases pf_char s q with ⟨b, h1, h2, h3, _⟩ | ⟨h2, h3, _⟩
  · rw [h3, pf_at (names_more h n) ((get_more _ _ _ _ _).2 h2)]
  · rw [h3, pf_no]
    intro i b e
    exact h2 i b ((get_more _ _ _ _ _).1 e)
theorem used_more (s : List Slt) (n : Nat) : usedN (s ++ List.replicate n none) = usedN s := by
  unfold usedN
  rw [List.filter_append]
  have : (List.replicate n (none : Slt)).filter (fun o => o.isSome) = [] := by
    rw [List.filter_eq_nil_iff]
    intro o ho
    rw [List.eq_of_mem_replicate ho]
    simp
  rw [this, List.append_nil]
theorem name_more {s : List Slt} (n : Nat) {p : List UInt8} (hp : ¬ nameAt s p < s.length) : ¬ nameAt (s ++ List.replicate n none) p < (s ++ List.replicate n none).length := by
  intro h
  obtain ⟨a, e⟩ := name_get h
  have e2 := (get_more _ _ _ _ _).1 e
  exact hp (Nat.lt_of_le_of_lt (name_lt e2) (List.getElem?_eq_some_iff.1 e2).1)
/-- What a map keyed by names tells hangs on names alone. -/
theorem MAt.names {W : World} {b n : Nat} {f g : Lit → Option Value} (h : MAt W 9 b n f) (e : ∀ q, f (.string q) = g (.string q)) : MAt W 9 b n g := by
  refine h.say (fun key kl hk => ?_)
  have : ∃ q, kl = .string q := by
    cases key <;> simp [keyOf, mapKey, Tryz.underlying9] at hk
    exact ⟨_, hk.2.symm⟩
  obtain ⟨q, rfl⟩ := this
  exact e q
/-! rows -/
theorem row_set {W : World} {r n c : Nat} {xs : List Value} (h : W.ownsRow 0 95 2 (.slice (some ⟨r, 0, none⟩) n c) n xs) (i : Nat) (u : Value) : (W.setCell ⟨r, i, none⟩ u).ownsRow 0 95 2 (.slice (some ⟨r, 0, none⟩) n c) n (xs.set i u) := by
  obtain ⟨h1, h2⟩ := h
  rcases h2 with ⟨h2, _⟩ | ⟨g, cap, cur, hv, hg, hh, hnc, hm, hsz, ht⟩
  · cases h2
  · cases hv
    refine ⟨by simpa using h1, .inr ⟨r, c, cur.setIfInBounds i u, rfl, hg, blk_set hh, hnc, hm, by simpa using hsz, ?_⟩⟩
    rw [Array.toList_setIfInBounds, List.take_set, ht]
end Go.Proofs.YtehaoeclnmelhabGreat
