/-
  A ring of threads, each holding what the one ahead wants: by what the table holds alone.
-/
import Derived.Test.YtoediflikoedaaaLkShared
namespace Go.Proofs.Ytoediflikoedaaa
open Go Go.Proofs Go.RowKit Go.Shelf
theorem ask_grants {A : Ta} (hA : A.Ok) {l : Lk} (hw : A.waits l.th = none) (hh : A.held l.tg = none) : (A.ask l).held = updC A.held l.tg (some ([l.th], l.al)) ∧ (A.ask l).waits = A.waits := by
  have e1 : A.holds l.th l.tg = false := by unfold Ta.holds; rw [hh]; rfl
  have e2 : A.rows l.tg = none := by
    cases e : A.rows l.tg with
    | none => rfl
    | some L =>
      have := (hA.row _ L e).2.1
      rw [hh] at this
      cases this
  unfold Ta.ask
  rw [hw, e1, e2, hh]
  refine ⟨?_, rfl⟩
  show updC A.held l.tg (some (putH (A.held l.tg) l)) = _
  rw [hh]
  rfl
theorem ask_waits' {A : Ta} {l : Lk} {S : List Int} (hw : A.waits l.th = none) (hh : A.held l.tg = some (S, true)) (hn : l.th ∉ S) : (A.ask l).held = A.held ∧ (A.ask l).waits = updC A.waits l.th (some l) := by
  have e1 : A.holds l.th l.tg = false := by unfold Ta.holds; rw [hh]; simpa [holdB] using hn
  have e3 : besB (some (S, true)) l.al = false := by simp [besB]
  unfold Ta.ask
  rw [hw, e1, hh, e3, Bool.and_false]
  exact ⟨rfl, rfl⟩
def hdF (i : Nat) (f : Bool) (x : Int) : Option (List Int × Bool) := if 0 ≤ x ∧ x < i then some ([x], true) else if f = true ∧ x = 50 then some ([500], true) else none
def wtF (n i b m : Nat) (x : Int) : Option Lk := if 0 ≤ x ∧ x < i then some ⟨x, (x + 1) % n, true⟩ else if 100 ≤ x ∧ x < 100 + b then some ⟨x, (x - 100) % n, false⟩ else if 300 ≤ x ∧ x < 300 + m then some ⟨x, 50, true⟩ else none
/-- The table, between two asks. -/
def Rg (n i : Nat) (f : Bool) (j b m : Nat) (A : Ta) : Prop := (∀ x, A.held x = hdF i f x) ∧ ∀ x, A.waits x = wtF n j b m x
section
variable {A : Ta} {n i j b m : Nat} {f : Bool}
theorem rg_none (n : Nat) : Rg n 0 false 0 0 0 Ta.none := by
  refine ⟨fun x => ?_, fun x => ?_⟩
  · unfold hdF
    rw [if_neg (by omega), if_neg (by simp)]
    rfl
  · unfold wtF
    rw [if_neg (by omega), if_neg (by omega), if_neg (by omega)]
    rfl
theorem rg_1 (hA : A.Ok) (h : Rg n i false 0 0 0 A) : Rg n (i + 1) false 0 0 0 (A.ask ⟨i, i, true⟩) := by
  have hw : A.waits (i : Int) = none := by rw [h.2]; unfold wtF; rw [if_neg (by omega), if_neg (by omega), if_neg (by omega)]
  have hh : A.held (i : Int) = none := by rw [h.1]; unfold hdF; rw [if_neg (by omega), if_neg (by simp)]
  obtain ⟨e1, e2⟩ := ask_grants hA (l := ⟨i, i, true⟩) hw hh
  refine ⟨fun x => ?_, fun x => by rw [e2]; exact h.2 x⟩
  rw [e1]
  show updC A.held (i : Int) (some ([(i : Int)], true)) x = _
  by_cases e : x = (i : Int)
  · subst e
    rw [updC_same]
    unfold hdF
    rw [if_pos (by omega)]
  · rw [updC_other _ _ e, h.1]
    unfold hdF
    by_cases q : 0 ≤ x ∧ x < i
    · rw [if_pos q, if_pos (by omega)]
    · rw [if_neg q, if_neg (show ¬ (0 ≤ x ∧ x < ((i + 1 : Nat) : Int)) by omega)]
theorem emod_in (a n : Nat) (hn : 0 < n) : 0 ≤ ((a : Int) % (n : Int)) ∧ ((a : Int) % (n : Int)) < n := ⟨Int.emod_nonneg _ (by omega), Int.emod_lt_of_pos _ (by omega)⟩
theorem rg_2 (h : Rg n n false j 0 0 A) (hj : j < n) (hn : 2 ≤ n) : Rg n n false (j + 1) 0 0 (A.ask ⟨j, ((j : Int) + 1) % n, true⟩) := by
  have hm := emod_in (j + 1) n (by omega)
  rw [show (((j + 1 : Nat) : Int)) = (j : Int) + 1 by omega] at hm
  have hw : A.waits (j : Int) = none := by rw [h.2]; unfold wtF; rw [if_neg (by omega), if_neg (by omega), if_neg (by omega)]
  have hh : A.held (((j : Int) + 1) % n) = some ([((j : Int) + 1) % n], true) := by rw [h.1]; unfold hdF; rw [if_pos hm]
  have hne : (j : Int) ≠ ((j : Int) + 1) % n := by
    by_cases q : j + 1 = n
    · rw [show ((j : Int) + 1) = n by omega, Int.emod_self]
      omega
    · rw [Int.emod_eq_of_lt (by omega) (by omega)]
      omega
  obtain ⟨e1, e2⟩ := ask_waits' (l := ⟨j, ((j : Int) + 1) % n, true⟩) hw hh (by simpa using hne)
  refine ⟨fun x => by rw [e1]; exact h.1 x, fun x => ?_⟩
  rw [e2]
  show updC A.waits (j : Int) (some ⟨j, ((j : Int) + 1) % n, true⟩) x = _
  by_cases e : x = (j : Int)
  · subst e
    rw [updC_same]
    unfold wtF
    rw [if_pos (by omega)]
  · rw [updC_other _ _ e, h.2]
    unfold wtF
    by_cases q : 0 ≤ x ∧ x < j
    · rw [if_pos q, if_pos (by omega)]
    · rw [if_neg q, if_neg (show ¬ (0 ≤ x ∧ x < ((j + 1 : Nat) : Int)) by omega)]
theorem rg_3 (h : Rg n n false n b 0 A) (hn : 2 ≤ n ∧ n ≤ 15) (hb : b < 10) : Rg n n false n (b + 1) 0 (A.ask ⟨100 + (b : Int), (b : Int) % n, false⟩) := by
  have hm := emod_in b n (by omega)
  have hw : A.waits (100 + (b : Int)) = none := by rw [h.2]; unfold wtF; rw [if_neg (by omega), if_neg (by omega), if_neg (by omega)]
  have hh : A.held ((b : Int) % n) = some ([(b : Int) % n], true) := by rw [h.1]; unfold hdF; rw [if_pos hm]
  obtain ⟨e1, e2⟩ := ask_waits' (l := ⟨100 + (b : Int), (b : Int) % n, false⟩) hw hh (by simp; omega)
  refine ⟨fun x => by rw [e1]; exact h.1 x, fun x => ?_⟩
  rw [e2]
  show updC A.waits (100 + (b : Int)) (some ⟨100 + (b : Int), (b : Int) % n, false⟩) x = _
  by_cases e : x = 100 + (b : Int)
  · subst e
    rw [updC_same]
    unfold wtF
    rw [if_neg (by omega), if_pos (by omega), show 100 + (b : Int) - 100 = (b : Int) by omega]
  · rw [updC_other _ _ e, h.2]
    unfold wtF
    by_cases q : 0 ≤ x ∧ x < n
    · rw [if_pos q, if_pos q]
    · rw [if_neg q, if_neg q]
      by_cases r : 100 ≤ x ∧ x < 100 + b
      · rw [if_pos r, if_pos (by omega)]
      · rw [if_neg r, if_neg (show ¬ (100 ≤ x ∧ x < 100 + ((b + 1 : Nat) : Int)) by omega)]
theorem rg_4 (hA : A.Ok) (h : Rg n n false n b 0 A) (hn : 2 ≤ n ∧ n ≤ 15) (hb : b ≤ 10) : Rg n n true n b 0 (A.ask ⟨500, 50, true⟩) := by
  have hw : A.waits (500 : Int) = none := by rw [h.2]; unfold wtF; rw [if_neg (by omega), if_neg (by omega), if_neg (by omega)]
  have hh : A.held (50 : Int) = none := by rw [h.1]; unfold hdF; rw [if_neg (by omega), if_neg (by simp)]
  obtain ⟨e1, e2⟩ := ask_grants hA (l := ⟨500, 50, true⟩) hw hh
  refine ⟨fun x => ?_, fun x => by rw [e2]; exact h.2 x⟩
  rw [e1]
  show updC A.held (50 : Int) (some ([(500 : Int)], true)) x = _
  by_cases e : x = 50
  · subst e
    rw [updC_same]
    unfold hdF
    rw [if_neg (by omega), if_pos ⟨rfl, rfl⟩]
  · rw [updC_other _ _ e, h.1]
    unfold hdF
    by_cases q : 0 ≤ x ∧ x < n
    · rw [if_pos q, if_pos q]
    · rw [if_neg q, if_neg q, if_neg (by simp), if_neg (fun r => e r.2)]
theorem rg_5 (h : Rg n n true n b m A) (hn : 2 ≤ n ∧ n ≤ 15) (hb : b ≤ 10) (hm : m < 10) : Rg n n true n b (m + 1) (A.ask ⟨300 + (m : Int), 50, true⟩) := by
  have hw : A.waits (300 + (m : Int)) = none := by rw [h.2]; unfold wtF; rw [if_neg (by omega), if_neg (by omega), if_neg (by omega)]
  have hh : A.held (50 : Int) = some ([500], true) := by rw [h.1]; unfold hdF; rw [if_neg (by omega), if_pos ⟨rfl, rfl⟩]
  obtain ⟨e1, e2⟩ := ask_waits' (l := ⟨300 + (m : Int), 50, true⟩) hw hh (by simp; omega)
  refine ⟨fun x => by rw [e1]; exact h.1 x, fun x => ?_⟩
  rw [e2]
  show updC A.waits (300 + (m : Int)) (some ⟨300 + (m : Int), 50, true⟩) x = _
  by_cases e : x = 300 + (m : Int)
  · subst e
    rw [updC_same]
    unfold wtF
    rw [if_neg (by omega), if_neg (by omega), if_pos (by omega)]
  · rw [updC_other _ _ e, h.2]
    unfold wtF
    by_cases q : 0 ≤ x ∧ x < n
    · rw [if_pos q, if_pos q]
    · rw [if_neg q, if_neg q]
      by_cases r : 100 ≤ x ∧ x < 100 + b
      · rw [if_pos r, if_pos r]
      · rw [if_neg r, if_neg r]
        by_cases s : 300 ≤ x ∧ x < 300 + m
        · rw [if_pos s, if_pos (by omega)]
        · rw [if_neg s, if_neg (show ¬ (300 ≤ x ∧ x < 300 + ((m + 1 : Nat) : Int)) by omega)]
end
/-- Those of the ring, and those behind it. -/
def inR (n b : Nat) (x : Int) : Prop := (0 ≤ x ∧ x < n) ∨ (100 ≤ x ∧ x < 100 + b)
/-- What stays so, whatever is released. -/
structure RgK (n b : Nat) (A : Ta) : Prop where
  ok : A.Ok
  held : ∀ x, 0 ≤ x ∧ x < (n : Int) → A.held x = some ([x], true)
  non : ∀ x, ¬ (0 ≤ x ∧ x < (n : Int)) → x ≠ 50 → A.held x = none
  ring : ∀ x, inR n b x → ∃ l, A.waits x = some l ∧ 0 ≤ l.tg ∧ l.tg < n
  rest : ∀ x l, ¬ inR n b x → A.waits x = some l → l.tg = 50
  free : ∀ x, A.holds x 50 = true → A.waits x = none
theorem rgk_steps {n b : Nat} (hn : n ≤ 15) {A A' : Ta} (hs : Steps A A') (h : RgK n b A) : RgK n b A' := by
  induction hs with
  | refl => exact h
  | step p x _ hp ih =>
    cases hh : Ta.holds _ p x with
    | false => rw [(rel_same hh).1]; exact ih
    | true =>
      have hx : x = 50 := by
        by_cases q : 0 ≤ x ∧ x < (n : Int)
        · exfalso
          have := ih.held x q
          unfold Ta.holds at hh
          rw [this] at hh
          simp [holdB] at hh
          obtain ⟨l, hl, _⟩ := ih.ring x (.inl q)
          rw [hh, hl] at hp
          cases hp
        · by_cases r : x = 50
          · exact r
          · unfold Ta.holds at hh
            rw [ih.non x q r] at hh
            cases hh
      subst hx
      obtain ⟨r1, r2, r3, r4, r5⟩ := rel_at hh
      obtain ⟨q1, q2, q3, q4⟩ := rel_holds ih.ok 50 hp
      have hG : ∀ th, th ∈ (Ta.relL _ p 50).map Lk.th → ¬ inR n b th := fun th hth hin => by
        obtain ⟨l, hl, e⟩ := List.mem_map.1 hth
        obtain ⟨l2, hl2, c1, c2⟩ := ih.ring th hin
        have hw := (q4 l hl).2
        rw [e, hl2] at hw
        cases hw
        rw [r4] at hl
        cases hq : Ta.rows _ 50 with
        | none => rw [hq] at hl; simp at hl
        | some L =>
          rw [hq] at hl
          have := ((ih.ok.row 50 L hq).2.2.1 l (List.mem_of_mem_take hl)).2.1
          omega
      refine ⟨ok_rel ih.ok p 50, fun y hy => by rw [(r1 y (by omega)).1]; exact ih.held y hy, fun y hy h50 => by rw [(r1 y h50).1]; exact ih.non y hy h50, fun y hy => ?_, fun y l hy hl => ?_, fun y hy => ?_⟩
      · obtain ⟨l, hl, c⟩ := ih.ring y hy
        exact ⟨l, by rw [r5, if_neg (fun q => hG y q hy)]; exact hl, c⟩
      · rw [r5] at hl
        split at hl
        · cases hl
        · exact ih.rest y l hy hl
      · rw [r5]
        split
        · rfl
        · rename_i hn'
          rcases q1 y 50 hy with ⟨c, _⟩ | ⟨_, c⟩
          · exact ih.free y c
          · exact absurd c hn'
theorem rgk_start {A : Ta} {n b m : Nat} (hA : A.Ok) (h : Rg n n true n b m A) (hn : 2 ≤ n ∧ n ≤ 15) (hb : b ≤ 10) (hm : m ≤ 10) : RgK n b A.waited := by
  have hrow : ∀ x, 0 ≤ x ∧ x < (n : Int) → (A.rows x).isSome = true := fun x hx => by
    obtain ⟨y, hy1, hy2⟩ : ∃ y : Int, (0 ≤ y ∧ y < n) ∧ (y + 1) % n = x := by
      by_cases q : x = 0
      · refine ⟨n - 1, by omega, ?_⟩
        rw [q, show (n : Int) - 1 + 1 = n by omega, Int.emod_self]
      · refine ⟨x - 1, by omega, ?_⟩
        rw [show x - 1 + 1 = x by omega]
        exact Int.emod_eq_of_lt hx.1 hx.2
    have hw : A.waits y = some ⟨y, (y + 1) % n, true⟩ := by rw [h.2]; unfold wtF; rw [if_pos hy1]
    obtain ⟨_, L, h1, _⟩ := hA.wt y _ hw
    have h1 : A.rows ((y + 1) % n) = some L := h1
    rw [hy2] at h1
    rw [h1]
    rfl
  have hheld : ∀ x, A.waited.held x = if (A.rows x).isSome then A.held x else Option.none := fun _ => rfl
  refine ⟨ok_waited hA, fun x hx => ?_, fun x hx h50 => ?_, fun x hx => ?_, fun x l hx hl => ?_, fun x hx => ?_⟩
  · rw [hheld, hrow x hx, if_pos rfl, h.1]
    unfold hdF
    rw [if_pos hx]
  · have e1 : A.held x = none := by
      rw [h.1]
      unfold hdF
      rw [if_neg hx, if_neg (fun q => h50 q.2)]
    rw [hheld, e1]
    split <;> rfl
  · show ∃ l, A.waits x = some l ∧ _
    rw [h.2]
    unfold wtF
    rcases hx with q | q
    · rw [if_pos q]
      exact ⟨_, rfl, Int.emod_nonneg _ (by omega), Int.emod_lt_of_pos _ (by omega)⟩
    · rw [if_neg (by omega), if_pos q]
      exact ⟨_, rfl, Int.emod_nonneg _ (by omega), Int.emod_lt_of_pos _ (by omega)⟩
  · have hl : A.waits x = some l := hl
    rw [h.2] at hl
    unfold wtF at hl
    rw [if_neg (fun q => hx (.inl q)), if_neg (fun q => hx (.inr q))] at hl
    split at hl
    · cases hl; rfl
    · cases hl
  · show A.waits x = none
    have hx : holdB (A.waited.held 50) x = true := hx
    rw [hheld] at hx
    split at hx
    · rw [h.1] at hx
      unfold hdF at hx
      rw [if_neg (by omega), if_pos ⟨rfl, rfl⟩] at hx
      simp [holdB] at hx
      subst hx
      rw [h.2]
      unfold wtF
      rw [if_neg (by omega), if_neg (by omega), if_neg (by omega)]
    · cases hx
theorem rgk_end {n b : Nat} (hn : n ≤ 15) {A : Ta} (h : RgK n b A) (hd : A.Done) {K : List Int} (hK : KeyL (intF lkV A.waits) K) : K = rr 0 n ++ rr 100 (100 + b) := by
  refine rise_ext hK.1.1 ?_ (fun x => ?_)
  · rw [List.pairwise_append]
    have hp : ∀ a c, (rr a c).Pairwise (· < ·) := fun a c => by
      unfold rr
      exact (List.pairwise_lt_range' (s := a) (n := c - a)).map _ (fun x y q => by omega)
    refine ⟨hp _ _, hp _ _, fun x hx y hy => ?_⟩
    have h1 := rr_mem hx
    have h2 := rr_mem hy
    omega
  · have e : x ∈ K ↔ (A.waits x).isSome = true := by
      have := hK.2 x
      rw [intF_int, Option.isSome_map] at this
      rw [this]
      simp
    have hr : ∀ a c : Nat, x ∈ rr a c ↔ (a : Int) ≤ x ∧ x < c := fun a c => ⟨rr_mem, fun q => by
      unfold rr
      refine List.mem_map.2 ⟨x.toNat, ?_, by omega⟩
      rw [List.mem_range'_1]
      omega⟩
    rw [e, List.mem_append, hr, hr]
    constructor
    · intro q
      obtain ⟨l, hl⟩ := Option.isSome_iff_exists.1 q
      by_cases r : inR n b x
      · rcases r with r | r
        · exact .inl (by omega)
        · exact .inr (by omega)
      · exfalso
        have ht := h.rest x l r hl
        obtain ⟨_, M, c1, c2⟩ := h.ok.wt x l hl
        rw [ht] at c1
        obtain ⟨z, hz⟩ := Option.isSome_iff_exists.1 (h.ok.row _ M c1).2.1
        obtain ⟨th, hth⟩ := List.exists_mem_of_ne_nil _ (h.ok.hd _ z hz).1
        have hh : A.holds th 50 = true := by unfold Ta.holds; rw [hz]; simpa [holdB] using hth
        have h1 := hd th 50 hh
        rw [h.free th hh] at h1
        cases h1
    · intro q
      obtain ⟨l, hl, _⟩ := h.ring x (q.elim (fun q => .inl (by omega)) (fun q => .inr (by omega)))
      rw [hl]
      rfl
end Go.Proofs.Ytoediflikoedaaa
