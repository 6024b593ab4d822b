/-
  Threads that ask for things by rising numbers are never stuck: by what the table holds alone.
-/
import Derived.Test.YtoediflikoedaaaLkNil
namespace Go.Proofs.Ytoediflikoedaaa
open Go Go.Proofs Go.RowKit Go.Shelf
/-- Who waits holds things below that alone. -/
def Ta.Ro (A : Ta) : Prop := ∀ th l tg, A.waits th = some l → A.holds th tg = true → tg < l.tg
theorem ro_steps {A A' : Ta} (hs : Steps A A') (hA : A.Ok) (h : A.Ro) : A'.Ok ∧ A'.Ro := by
  induction hs with
  | refl => exact ⟨hA, h⟩
  | step p x _ hp ih =>
    obtain ⟨i1, i2⟩ := ih
    refine ⟨ok_rel i1 p x, fun th l tg hw hh => ?_⟩
    obtain ⟨r1, r2, _, _⟩ := rel_holds i1 x hp
    rw [r2] at hw
    split at hw
    · cases hw
    · rename_i hn
      rcases r1 th tg hh with ⟨q, _⟩ | ⟨_, q⟩
      · exact i2 th l tg hw q
      · exact absurd q hn
theorem max_of (f : Int → Int) : ∀ K : List Int, K ≠ [] → ∃ x ∈ K, ∀ y ∈ K, f y ≤ f x
  | [], h => absurd rfl h
  | [a], _ => ⟨a, by simp, fun y hy => by simp at hy; subst hy; exact Int.le_refl _⟩
  | a :: b :: r, _ => by
    obtain ⟨x, hx, hm⟩ := max_of f (b :: r) (by simp)
    by_cases q : f x ≤ f a
    · refine ⟨a, by simp, fun y hy => ?_⟩
      rcases List.mem_cons.1 hy with e | e
      · rw [e]; exact Int.le_refl _
      · exact Int.le_trans (hm y e) q
    · refine ⟨x, List.mem_cons_of_mem _ hx, fun y hy => ?_⟩
      rcases List.mem_cons.1 hy with e | e
      · rw [e]; omega
      · exact hm y e
theorem ro_free {A A' : Ta} (hA : A.Ok) (h : A.Ro) (hs : Steps A.waited A') (hd : A'.Done) {K : List Int} (hK : KeyL (intF lkV A'.waits) K) : K = [] := by
  have hw : A.waited.Ro := fun th l tg q hh => by
    refine h th l tg q ?_
    have hh : holdB (if (A.rows tg).isSome then A.held tg else Option.none) th = true := hh
    split at hh
    · exact hh
    · cases hh
  obtain ⟨b1, b2⟩ := ro_steps hs (ok_waited hA) hw
  by_cases hne : K = []
  · exact hne
  · exfalso
    have mem : ∀ x, x ∈ K ↔ (A'.waits x).isSome = true := fun x => by
      have := hK.2 x
      rw [intF_int, Option.isSome_map] at this
      rw [this]
      simp
    obtain ⟨x, hx, hm⟩ := max_of (fun x => ((A'.waits x).getD Lk.zero).tg) K hne
    obtain ⟨l, hl⟩ := Option.isSome_iff_exists.1 ((mem x).1 hx)
    obtain ⟨_, M, c1, c2⟩ := b1.wt x l hl
    obtain ⟨z, hz⟩ := Option.isSome_iff_exists.1 (b1.row _ M c1).2.1
    obtain ⟨th, hth⟩ := List.exists_mem_of_ne_nil _ (b1.hd _ z hz).1
    have hh : A'.holds th l.tg = true := by unfold Ta.holds; rw [hz]; simpa [holdB] using hth
    have h1 := hd th _ hh
    obtain ⟨l2, hl2⟩ := Option.isSome_iff_exists.1 h1
    have h2 := b2 th l2 l.tg hl2 hh
    have h3 := hm th ((mem th).2 h1)
    simp only [hl, hl2, Option.getD_some] at h3
    omega
/-- Each thread k has things up to last k alone. -/
structure Ord (last : Int → Int) (A : Ta) : Prop where
  up : ∀ th tg, A.holds th tg = true → tg ≤ last th
  ro : A.Ro
theorem ord_none : Ord (fun _ => 0) Ta.none := ⟨fun _ _ h => (by cases h), fun _ _ _ h => (by cases h)⟩
theorem ord_ask {A : Ta} {last : Int → Int} (h : Ord last A) {l : Lk} (hw : A.waits l.th = none) (hv : last l.th < l.tg) : Ord (fun x => if x = l.th then l.tg else last x) (A.ask l) := by
  have hn : A.holds l.th l.tg = false := by
    cases e : A.holds l.th l.tg with
    | false => rfl
    | true => have := h.up _ _ e; omega
  have ge : ∀ x, last x ≤ if x = l.th then l.tg else last x := fun x => by split <;> (try subst_vars) <;> omega
  unfold Ta.ask
  rw [hw, hn]
  simp only [Option.isSome_none, Bool.or_self, Bool.false_eq_true, if_false]
  split
  · have hold : ∀ th tg, (A.grant l).holds th tg = true → A.holds th tg = true ∨ (th = l.th ∧ tg = l.tg) := fun th tg hh => by
      have hh : holdB (updC A.held l.tg (some (putH (A.held l.tg) l)) tg) th = true := hh
      by_cases e : tg = l.tg
      · subst e
        rw [updC_same, holdB_put] at hh
        simp only [Bool.or_eq_true, decide_eq_true_eq] at hh
        exact hh.imp (fun q => q) (fun q => ⟨q, rfl⟩)
      · rw [updC_other _ _ e] at hh
        exact .inl hh
    refine ⟨fun th tg hh => ?_, fun th l2 tg hw2 hh => ?_⟩
    · rcases hold th tg hh with q | ⟨q1, q2⟩
      · exact Int.le_trans (h.up th tg q) (ge th)
      · rw [if_pos q1, q2]; exact Int.le_refl _
    · rcases hold th tg hh with q | ⟨q1, _⟩
      · exact h.ro th l2 tg hw2 q
      · have hw2 : A.waits th = some l2 := hw2
        rw [q1, hw] at hw2
        cases hw2
  · refine ⟨fun th tg hh => Int.le_trans (h.up th tg hh) (ge th), fun th l2 tg hw2 hh => ?_⟩
    have hw2 : updC A.waits l.th (some l) th = some l2 := hw2
    by_cases e : th = l.th
    · subst e
      rw [updC_same] at hw2
      cases hw2
      have := h.up _ _ hh
      omega
    · rw [updC_other _ _ e] at hw2
      exact h.ro th l2 tg hw2 hh
end Go.Proofs.Ytoediflikoedaaa
