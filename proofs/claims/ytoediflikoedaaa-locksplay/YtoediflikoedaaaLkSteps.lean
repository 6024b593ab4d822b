/-
  Locks by what they hold alone: what stays so, and what a release makes of them.
-/
import Derived.Test.YtoediflikoedaaaLkRel
import Derived.Test.YtoediflikoedaaaLkHas
namespace Go.Proofs.Ytoediflikoedaaa
open Go Go.Proofs Go.RowKit Go.Shelf
structure Ta.Ok (A : Ta) : Prop where
  row : ∀ tg L, A.rows tg = some L → L ≠ [] ∧ (A.held tg).isSome = true ∧ (∀ l ∈ L, l.wf ∧ l.tg = tg ∧ A.waits l.th = some l) ∧ (L.map Lk.th).Nodup
  wt : ∀ th l, A.waits th = some l → l.th = th ∧ ∃ L, A.rows l.tg = some L ∧ l ∈ L
  hd : ∀ tg x, A.held tg = some x → x.1 ≠ [] ∧ Rise x.1 ∧ (Lit.int .i64 tg).wf = true
theorem ok_none : Ta.none.Ok := ⟨fun _ _ h => (by cases h), fun _ _ h => (by cases h), fun _ _ h => (by cases h)⟩
theorem runH_isSome (h : Option (List Int × Bool)) (L : List Lk) (hh : h.isSome = true ∨ L ≠ []) : (runH h L).isSome = true := by
  induction L generalizing h with
  | nil => exact hh.resolve_right (fun q => q rfl)
  | cons l r ih =>
    rw [runH_cons]
    split
    · exact ih _ (.inl rfl)
    · rename_i hb
      cases h with
      | none => exact absurd rfl hb
      | some x => rfl
theorem putH_ok {h : Option (List Int × Bool)} (hh : ∀ x, h = some x → x.1 ≠ [] ∧ Rise x.1) {l : Lk} (hl : l.wf) : (putH h l).1 ≠ [] ∧ Rise (putH h l).1 := by
  cases h with
  | none => exact ⟨by simp [putH], ⟨by simp [putH], fun x hx => by simp [putH] at hx; subst hx; exact hl.1⟩⟩
  | some x =>
    refine ⟨fun e => ?_, ins_rise (hh x rfl).2 hl.1⟩
    have : l.th ∈ insS l.th x.1 := mem_ins.2 (.inl rfl)
    have e' : insS l.th x.1 = [] := e
    rw [e'] at this
    cases this
theorem runH_ok {h : Option (List Int × Bool)} (hh : ∀ x, h = some x → x.1 ≠ [] ∧ Rise x.1) {L : List Lk} (hL : ∀ l ∈ L, l.wf) : ∀ x, runH h L = some x → x.1 ≠ [] ∧ Rise x.1 := by
  induction L generalizing h with
  | nil => exact hh
  | cons l r ih =>
    rw [runH_cons]
    split
    · exact ih (fun x hx => by cases hx; exact putH_ok hh (hL l (by simp))) (fun l' hl' => hL l' (by simp [hl']))
    · exact hh
theorem holdB_put (h : Option (List Int × Bool)) (l : Lk) (t : Int) : holdB (some (putH h l)) t = (holdB h t || decide (t = l.th)) := by
  cases h with
  | none => simp [putH, holdB]
  | some x =>
    simp only [putH, holdB]
    rw [Bool.eq_iff_iff]
    simp [mem_ins, or_comm]
theorem runH_mem (h : Option (List Int × Bool)) (L : List Lk) (t : Int) : holdB (runH h L) t = (holdB h t || decide (t ∈ (L.take (runN h L)).map Lk.th)) := by
  induction L generalizing h with
  | nil => simp [runH, runN]
  | cons l r ih =>
    rw [runH_cons, runN_cons]
    split
    · rw [ih, holdB_put, List.take_succ_cons, Bool.eq_iff_iff]
      simp [or_assoc]
    · simp
theorem dropH_mem (h : Option (List Int × Bool)) (p t : Int) : holdB (dropH h p) t = (holdB h t && decide (t ≠ p)) := by
  cases h with
  | none => rfl
  | some x =>
    simp only [dropH]
    split
    · rename_i e
      rw [Bool.eq_iff_iff]
      simp only [holdB, Bool.false_eq_true, Bool.and_eq_true, decide_eq_true_eq, false_iff]
      intro ⟨h1, h2⟩
      have := mem_del.2 ⟨h1, h2⟩
      rw [e] at this
      cases this
    · rw [Bool.eq_iff_iff]
      simp [holdB, mem_del]
/-- What a release makes of a table, thing by thing. -/
theorem rel_at {A : Ta} {p x : Int} (hh : A.holds p x = true) : (∀ tg, tg ≠ x → (A.rel p x).held tg = A.held tg ∧ (A.rel p x).rows tg = A.rows tg) ∧ (A.rel p x).held x = runH (dropH (A.held x) p) ((A.rows x).getD []) ∧ (A.rel p x).rows x = leftR (A.rows x) (runN (dropH (A.held x) p) ((A.rows x).getD [])) ∧ A.relL p x = ((A.rows x).getD []).take (runN (dropH (A.held x) p) ((A.rows x).getD [])) ∧ ∀ th, (A.rel p x).waits th = if th ∈ (A.relL p x).map Lk.th then none else A.waits th := by
  have e1 : (A.drop p x).held x = dropH (A.held x) p := updC_same _ _ _
  have e2 : A.rel p x = (A.drop p x).run x := by unfold Ta.rel; rw [hh]; rfl
  have e3 : A.relL p x = (A.drop p x).runs x := by unfold Ta.relL; rw [hh]; rfl
  have e4 : (A.drop p x).runs x = ((A.rows x).getD []).take (runN (dropH (A.held x) p) ((A.rows x).getD [])) := by unfold Ta.runs; rw [e1]; rfl
  rw [e2, e3]
  refine ⟨fun tg htg => ⟨?_, ?_⟩, ?_, ?_, e4, fun th => ?_⟩
  · show updC (A.drop p x).held x _ tg = _
    rw [updC_other _ _ htg]
    exact updC_other _ _ htg
  · show updC (A.drop p x).rows x _ tg = _
    rw [updC_other _ _ htg]
    rfl
  · show updC (A.drop p x).held x (runH ((A.drop p x).held x) _) x = _
    rw [updC_same, e1]
    rfl
  · show updC (A.drop p x).rows x (leftR _ (runN ((A.drop p x).held x) _)) x = _
    rw [updC_same, e1]
    rfl
  · rw [e4]
    show unwait (A.drop p x).waits (((A.drop p x).rows x |>.getD []).take (runN ((A.drop p x).held x) _)) th = _
    rw [unwait_eq, e1]
    rfl
theorem rel_same {A : Ta} {p x : Int} (hh : A.holds p x = false) : A.rel p x = A ∧ A.relL p x = [] := by
  unfold Ta.rel Ta.relL
  rw [hh]
  exact ⟨rfl, rfl⟩
theorem left_some {o : Option (List Lk)} {n : Nat} {L' : List Lk} (h : leftR o n = some L') : ∃ L, o = some L ∧ ¬ L.length ≤ n ∧ L' = L.drop n := by
  cases o with
  | none => cases h
  | some L =>
    simp only [leftR] at h
    split at h
    · cases h
    · rename_i q
      exact ⟨L, rfl, q, (Option.some.inj h).symm⟩
theorem nodup_split {L : List Lk} (h : (L.map Lk.th).Nodup) (n : Nat) {l : Lk} (hl : l ∈ L.drop n) : l.th ∉ (L.take n).map Lk.th := by
  intro hm
  have e : L.map Lk.th = (L.take n).map Lk.th ++ (L.drop n).map Lk.th := by rw [← List.map_append, List.take_append_drop]
  rw [e, List.nodup_append] at h
  exact h.2.2 _ hm _ (List.mem_map.2 ⟨l, hl, rfl⟩) rfl
theorem ok_rel {A : Ta} (h : A.Ok) (p x : Int) : (A.rel p x).Ok := by
  cases hh : A.holds p x with
  | false => rw [(rel_same hh).1]; exact h
  | true =>
    obtain ⟨r1, r2, r3, r4, r5⟩ := rel_at hh
    generalize hn : runN (dropH (A.held x) p) ((A.rows x).getD []) = n at r3 r4
    refine ⟨fun tg L' hL' => ?_, fun th l hl => ?_, fun tg y hy => ?_⟩
    · by_cases e : tg = x
      · subst e
        rw [r3] at hL'
        obtain ⟨L, hL, hlen, rfl⟩ := left_some hL'
        obtain ⟨a1, a2, a3, a4⟩ := h.row tg L hL
        rw [hL] at r2 r4
        simp only [Option.getD_some] at r2 r4
        refine ⟨fun q => hlen (by have := congrArg List.length q; rw [List.length_drop] at this; simp at this; omega), ?_, fun l hl => ?_, ?_⟩
        · rw [r2]
          exact runH_isSome _ _ (.inr a1)
        · obtain ⟨b1, b2, b3⟩ := a3 l (List.mem_of_mem_drop hl)
          refine ⟨b1, b2, ?_⟩
          rw [r5, if_neg, b3]
          rw [r4]
          exact nodup_split a4 n hl
        · exact a4.sublist ((List.drop_sublist _ _).map _)
      · rw [(r1 tg e).2] at hL'
        obtain ⟨a1, a2, a3, a4⟩ := h.row tg L' hL'
        refine ⟨a1, by rw [(r1 tg e).1]; exact a2, fun l hl => ?_, a4⟩
        obtain ⟨b1, b2, b3⟩ := a3 l hl
        refine ⟨b1, b2, ?_⟩
        rw [r5, if_neg, b3]
        intro hm
        rw [r4] at hm
        obtain ⟨l2, hl2, e2⟩ := List.mem_map.1 hm
        cases hL : A.rows x with
        | none => rw [hL] at hl2; simp at hl2
        | some L =>
          rw [hL] at hl2
          obtain ⟨c1, c2, c3⟩ := (h.row x L hL).2.2.1 l2 (List.mem_of_mem_take hl2)
          rw [e2, b3] at c3
          cases c3
          exact e (b2.symm.trans c2)
    · rw [r5] at hl
      split at hl
      · cases hl
      · rename_i hm
        obtain ⟨a1, L, a2, a3⟩ := h.wt th l hl
        refine ⟨a1, ?_⟩
        by_cases e : l.tg = x
        · rw [e] at a2
          rw [r4, a2] at hm
          simp only [Option.getD_some] at hm
          have hd : l ∈ L.drop n := by
            have := a3
            rw [← List.take_append_drop n L] at this
            rcases List.mem_append.1 this with q | q
            · exact absurd (List.mem_map.2 ⟨l, q, a1⟩) hm
            · exact q
          have hlen : ¬ L.length ≤ n := fun q => by rw [List.drop_eq_nil_of_le q] at hd; cases hd
          refine ⟨L.drop n, ?_, hd⟩
          rw [e, r3, a2]
          simp only [leftR, if_neg hlen]
        · exact ⟨L, by rw [(r1 _ e).2]; exact a2, a3⟩
    · by_cases e : tg = x
      · subst e
        obtain ⟨z, hz⟩ : ∃ z, A.held tg = some z := by
          unfold Ta.holds at hh
          cases q : A.held tg with
          | none => rw [q] at hh; cases hh
          | some z => exact ⟨z, rfl⟩
        obtain ⟨c1, c2, c3⟩ := h.hd tg z hz
        rw [r2] at hy
        have := runH_ok (h := dropH (A.held tg) p) (fun y hy => by
          rw [hz] at hy
          simp only [dropH] at hy
          split at hy
          · cases hy
          · rename_i q
            cases hy
            exact ⟨q, del_rise c2⟩) (L := (A.rows tg).getD []) (fun l hl => by
          cases q : A.rows tg with
          | none => rw [q] at hl; cases hl
          | some L => rw [q] at hl; exact ((h.row tg L q).2.2.1 l hl).1) y hy
        exact ⟨this.1, this.2, c3⟩
      · rw [(r1 tg e).1] at hy
        exact h.hd tg y hy
theorem ok_ask {A : Ta} (h : A.Ok) (l : Lk) (hl : l.wf) : (A.ask l).Ok := by
  unfold Ta.ask
  split
  · exact h
  · rename_i q1
    have hw : A.waits l.th = none := by
      cases e : A.waits l.th with
      | none => rfl
      | some _ => rw [e] at q1; simp at q1
    split
    · refine ⟨fun tg L hL => ?_, h.wt, fun tg y hy => ?_⟩
      · obtain ⟨a1, a2, a3⟩ := h.row tg L hL
        refine ⟨a1, ?_, a3⟩
        show (updC A.held l.tg _ tg).isSome = true
        by_cases e : tg = l.tg
        · subst e; rw [updC_same]; rfl
        · rw [updC_other _ _ e]; exact a2
      · have hy : updC A.held l.tg (some (putH (A.held l.tg) l)) tg = some y := hy
        by_cases e : tg = l.tg
        · subst e
          rw [updC_same] at hy
          cases hy
          have := putH_ok (h := A.held l.tg) (fun x hx => ⟨(h.hd _ x hx).1, (h.hd _ x hx).2.1⟩) hl
          exact ⟨this.1, this.2, hl.2⟩
        · rw [updC_other _ _ e] at hy
          exact h.hd tg y hy
    · rename_i q2
      have hld : (A.held l.tg).isSome = true := by
        cases e : A.rows l.tg with
        | some L => exact (h.row _ L e).2.1
        | none =>
          cases e2 : A.held l.tg with
          | some _ => rfl
          | none => rw [e, e2] at q2; exact absurd rfl q2
      have ne : ∀ tg L l2, A.rows tg = some L → l2 ∈ L → l2.th ≠ l.th := fun tg L l2 h1 h2 e => by
        have := ((h.row tg L h1).2.2.1 l2 h2).2.2
        rw [e, hw] at this
        cases this
      refine ⟨fun tg L hL => ?_, fun th l2 hl2 => ?_, h.hd⟩
      · have hL : updC A.rows l.tg (some ((A.rows l.tg).getD [] ++ [l])) tg = some L := hL
        show L ≠ [] ∧ (A.held tg).isSome = true ∧ (∀ l2 ∈ L, l2.wf ∧ l2.tg = tg ∧ updC A.waits l.th (some l) l2.th = some l2) ∧ _
        by_cases e : tg = l.tg
        · subst e
          rw [updC_same] at hL
          cases hL
          refine ⟨by simp, hld, fun l2 hl2 => ?_, ?_⟩
          · rcases List.mem_append.1 hl2 with q | q
            · cases e : A.rows l.tg with
              | none => rw [e] at q; cases q
              | some L =>
                rw [e] at q
                obtain ⟨b1, b2, b3⟩ := (h.row _ L e).2.2.1 l2 q
                exact ⟨b1, b2, by rw [updC_other _ _ (ne _ L l2 e q)]; exact b3⟩
            · rw [List.mem_singleton.1 q]
              exact ⟨hl, rfl, updC_same _ _ _⟩
          · cases e : A.rows l.tg with
            | none => simp
            | some L =>
              simp only [Option.getD_some, List.map_append, List.map_cons, List.map_nil]
              rw [List.nodup_append]
              refine ⟨(h.row _ L e).2.2.2, by simp, fun a ha b hb q => ?_⟩
              obtain ⟨l2, hl2, rfl⟩ := List.mem_map.1 ha
              rw [List.mem_singleton.1 hb] at q
              exact ne _ L l2 e hl2 q
        · rw [updC_other _ _ e] at hL
          obtain ⟨a1, a2, a3, a4⟩ := h.row tg L hL
          exact ⟨a1, a2, fun l2 hl2 => ⟨(a3 l2 hl2).1, (a3 l2 hl2).2.1, by rw [updC_other _ _ (ne tg L l2 hL hl2)]; exact (a3 l2 hl2).2.2⟩, a4⟩
      · have hl2 : updC A.waits l.th (some l) th = some l2 := hl2
        show l2.th = th ∧ ∃ L, updC A.rows l.tg (some ((A.rows l.tg).getD [] ++ [l])) l2.tg = some L ∧ l2 ∈ L
        by_cases e : th = l.th
        · subst e
          rw [updC_same] at hl2
          cases hl2
          exact ⟨rfl, _, updC_same _ _ _, by simp⟩
        · rw [updC_other _ _ e] at hl2
          obtain ⟨a1, L, a2, a3⟩ := h.wt th l2 hl2
          refine ⟨a1, ?_⟩
          by_cases e2 : l2.tg = l.tg
          · refine ⟨_, by rw [e2]; exact updC_same _ _ _, ?_⟩
            rw [← e2, a2]
            simp [a3]
          · exact ⟨L, by rw [updC_other _ _ e2]; exact a2, a3⟩
/-- What a thread holds, and who waits, behind a release by one that does not wait. -/
theorem rel_holds {A : Ta} (h : A.Ok) {p : Int} (x : Int) (hp : A.waits p = none) :
    (∀ th tg, (A.rel p x).holds th tg = true → (A.holds th tg = true ∧ ¬ (th = p ∧ tg = x)) ∨ (tg = x ∧ th ∈ (A.relL p x).map Lk.th)) ∧ (∀ th, (A.rel p x).waits th = if th ∈ (A.relL p x).map Lk.th then none else A.waits th) ∧ p ∉ (A.relL p x).map Lk.th ∧ ∀ l ∈ A.relL p x, l.wf ∧ A.waits l.th = some l := by
  cases hh : A.holds p x with
  | false =>
    obtain ⟨e1, e2⟩ := rel_same hh
    rw [e1, e2]
    refine ⟨fun th tg q => .inl ⟨q, fun ⟨h1, h2⟩ => ?_⟩, fun th => by simp, by simp, fun l hl => by cases hl⟩
    rw [h1, h2, hh] at q
    cases q
  | true =>
    obtain ⟨r1, r2, r3, r4, r5⟩ := rel_at hh
    have hG : ∀ l ∈ A.relL p x, l.wf ∧ A.waits l.th = some l := fun l hl => by
      rw [r4] at hl
      cases q : A.rows x with
      | none => rw [q] at hl; simp at hl
      | some L =>
        rw [q] at hl
        obtain ⟨a1, a2, a3⟩ := (h.row x L q).2.2.1 l (List.mem_of_mem_take hl)
        exact ⟨a1, a3⟩
    refine ⟨fun th tg q => ?_, r5, fun hm => ?_, hG⟩
    · by_cases e : tg = x
      · subst e
        unfold Ta.holds at q
        rw [r2, runH_mem, dropH_mem, ← r4] at q
        simp only [Bool.or_eq_true, Bool.and_eq_true, decide_eq_true_eq] at q
        rcases q with q | q
        · exact .inl ⟨q.1, fun r => q.2 r.1⟩
        · exact .inr ⟨rfl, q⟩
      · unfold Ta.holds at q
        rw [(r1 tg e).1] at q
        exact .inl ⟨q, fun r => e r.2⟩
    · obtain ⟨l, hl, e⟩ := List.mem_map.1 hm
      have := (hG l hl).2
      rw [e, hp] at this
      cases this
/-- All that is held is known: Q: what p still has; R: who has x since, and is not written down yet. -/
def Cv (A : Ta) (f : Int → Option (Value × List Int)) (l : List Int) (p : Int) (Q : List Int) (x : Int) (R : List Int) : Prop := ∀ th tg, A.holds th tg = true → (th = p ∧ tg ∈ Q) ∨ ((tg ∈ rowL f th ∨ (tg = x ∧ th ∈ R)) ∧ (A.waits th = none → th ∈ l ∨ th ∈ R))
theorem cv_pop {A : Ta} {f : Int → Option (Value × List Int)} {l : List Int} {p q y : Int} (h : Cv A f (l ++ [p]) q [] y []) : Cv A f l p (rowL f p) y [] := by
  intro th tg hh
  rcases h th tg hh with ⟨_, q⟩ | ⟨h1, h2⟩
  · cases q
  · by_cases e : th = p
    · subst e
      exact .inl ⟨rfl, h1.elim (fun q => q) (fun q => by cases q.2)⟩
    · refine .inr ⟨h1, fun hw => ?_⟩
      rcases h2 hw with q | q
      · rcases List.mem_append.1 q with q | q
        · exact .inl q
        · exact absurd (List.mem_singleton.1 q) e
      · cases q
theorem cv_rel {A : Ta} (hA : A.Ok) {f : Int → Option (Value × List Int)} {l : List Int} {p : Int} {x y : Int} {Q : List Int} (hp : A.waits p = none) (h : Cv A f l p (x :: Q) y []) : Cv (A.rel p x) f l p Q x ((A.relL p x).map Lk.th) := by
  obtain ⟨r1, r2, r3, _⟩ := rel_holds hA x hp
  intro th tg hh
  have wt : ∀ th, (A.waits th = none → th ∈ l) → ((A.rel p x).waits th = none → th ∈ l ∨ th ∈ (A.relL p x).map Lk.th) := fun th h0 hw => by
    rw [r2] at hw
    by_cases e : th ∈ (A.relL p x).map Lk.th
    · exact .inr e
    · rw [if_neg e] at hw
      exact .inl (h0 hw)
  rcases r1 th tg hh with ⟨q1, q2⟩ | ⟨q1, q2⟩
  · rcases h th tg q1 with ⟨e1, e2⟩ | ⟨h1, h2⟩
    · rcases List.mem_cons.1 e2 with e | e
      · exact absurd ⟨e1, e⟩ q2
      · exact .inl ⟨e1, e⟩
    · refine .inr ⟨.inl (h1.elim (fun q => q) (fun q => by cases q.2)), wt th (fun hw => (h2 hw).elim (fun q => q) (fun q => by cases q))⟩
  · exact .inr ⟨.inr ⟨q1, q2⟩, fun _ => .inr q2⟩
theorem cv_next {A : Ta} {f : Int → Option (Value × List Int)} {l : List Int} {p : Int} {x y : Int} {Q R : List Int} {v : Value} (h : Cv A f l p Q x (y :: R)) : Cv A (updC f y (some (v, rowL f y ++ [x]))) (l ++ [y]) p Q x R := by
  intro th tg hh
  rcases h th tg hh with q | ⟨h1, h2⟩
  · exact .inl q
  · refine .inr ⟨?_, fun hw => ?_⟩
    · rw [rowL_upd]
      by_cases e : th = y
      · subst e
        rw [if_pos rfl]
        rcases h1 with q | ⟨q, _⟩
        · exact .inl (List.mem_append.2 (.inl q))
        · exact .inl (by rw [q]; simp)
      · rw [if_neg e]
        rcases h1 with q | ⟨q1, q2⟩
        · exact .inl q
        · exact .inr ⟨q1, (List.mem_cons.1 q2).resolve_left e⟩
    · rcases h2 hw with q | q
      · exact .inl (List.mem_append.2 (.inl q))
      · rcases List.mem_cons.1 q with q | q
        · exact .inl (by rw [q]; simp)
        · exact .inr q
theorem cv_drop {A : Ta} {f : Int → Option (Value × List Int)} {l : List Int} {p x y : Int} {Q : List Int} (h : Cv A f l p Q x []) : Cv A f l p Q y [] := by
  intro th tg hh
  rcases h th tg hh with q | ⟨h1, h2⟩
  · exact .inl q
  · exact .inr ⟨h1.imp (fun q => q) (fun q => by cases q.2), h2⟩
/-- Who holds something waits. -/
def Ta.Done (A : Ta) : Prop := ∀ th tg, A.holds th tg = true → (A.waits th).isSome = true
theorem cv_done {A : Ta} {f : Int → Option (Value × List Int)} {p x : Int} (h : Cv A f [] p [] x []) : A.Done := by
  intro th tg hh
  rcases h th tg hh with ⟨_, q⟩ | ⟨_, h2⟩
  · cases q
  · cases e : A.waits th with
    | some _ => rfl
    | none => rcases h2 e with q | q <;> cases q
inductive Steps (A : Ta) : Ta → Prop where
  | refl : Steps A A
  | step {A' : Ta} (p x : Int) (h : Steps A A') (hp : A'.waits p = none) : Steps A (A'.rel p x)
theorem ok_waited {A : Ta} (h : A.Ok) : A.waited.Ok := by
  refine ⟨fun tg L hL => ?_, h.wt, fun tg y hy => ?_⟩
  · obtain ⟨a1, a2, a3⟩ := h.row tg L hL
    refine ⟨a1, ?_, a3⟩
    show (if (A.rows tg).isSome then A.held tg else Option.none).isSome = true
    rw [show A.rows tg = some L from hL]
    exact a2
  · have hy : (if (A.rows tg).isSome then A.held tg else Option.none) = some y := hy
    split at hy
    · exact h.hd tg y hy
    · cases hy
end Go.Proofs.Ytoediflikoedaaa
