/-
  Nobody is alone with a thing that another one holds: by what the table holds alone.
-/
import Derived.Test.YtoediflikoedaaaLkO
namespace Go.Proofs.Ytoediflikoedaaa
open Go Go.Proofs Go.RowKit Go.Shelf
/-- Who is alone with a thing is the only one that has it. -/
def SoloH (h : Option (List Int × Bool)) : Prop := ∀ S, h = some (S, true) → S.length = 1
def Ta.Solo (A : Ta) : Prop := ∀ x, SoloH (A.held x)
theorem solo_none : Ta.none.Solo := fun _ _ h => by cases h
theorem solo_put {h : Option (List Int × Bool)} {l : Lk} (hb : besB h l.al = true) : SoloH (some (putH h l)) := by
  intro S hS
  cases h with
  | none =>
    have : ([l.th], l.al) = (S, true) := Option.some.inj hS
    have h1 : [l.th] = S := congrArg Prod.fst this
    rw [← h1]
    rfl
  | some y =>
    have : (insS l.th y.1, y.2) = (S, true) := Option.some.inj hS
    simp [besB] at hb
    have h2 : y.2 = true := congrArg Prod.snd this
    rw [hb.2] at h2
    cases h2
theorem solo_run {h : Option (List Int × Bool)} (hh : SoloH h) (L : List Lk) : SoloH (runH h L) := by
  induction L generalizing h with
  | nil => exact hh
  | cons l r ih =>
    rw [runH_cons]
    split
    · rename_i hb
      exact ih (solo_put hb)
    · exact hh
theorem solo_drop {h : Option (List Int × Bool)} (hh : SoloH h) (p : Int) (hp : holdB h p = true) : SoloH (dropH h p) := by
  intro S hS
  cases h with
  | none => cases hS
  | some y =>
    simp only [dropH] at hS
    split at hS
    · cases hS
    · rename_i hne
      have e : (delS p y.1, y.2) = (S, true) := Option.some.inj hS
      have h2 : y.2 = true := congrArg Prod.snd e
      have h1 := hh y.1 (by rw [← h2])
      exfalso
      apply hne
      obtain ⟨z, hz⟩ := List.length_eq_one_iff.1 h1
      have hp : p ∈ y.1 := by simpa [holdB] using hp
      rw [hz] at hp ⊢
      have := List.mem_singleton.1 hp
      subst this
      simp [delS]
theorem solo_ask {A : Ta} (h : A.Solo) (l : Lk) : (A.ask l).Solo := by
  unfold Ta.ask
  split
  · exact h
  · split
    · rename_i hb
      intro x
      show SoloH (updC A.held l.tg (some (putH (A.held l.tg) l)) x)
      by_cases e : x = l.tg
      · subst e
        rw [updC_same]
        simp at hb
        exact solo_put hb.2
      · rw [updC_other _ _ e]
        exact h x
    · exact h
theorem solo_rel {A : Ta} (h : A.Solo) (p x : Int) : (A.rel p x).Solo := by
  cases hh : A.holds p x with
  | false => rw [(rel_same hh).1]; exact h
  | true =>
    obtain ⟨r1, r2, _⟩ := rel_at hh
    intro y
    by_cases e : y = x
    · subst e
      rw [r2]
      exact solo_run (solo_drop (h y) p hh) _
    · rw [(r1 y e).1]
      exact h y
end Go.Proofs.Ytoediflikoedaaa
