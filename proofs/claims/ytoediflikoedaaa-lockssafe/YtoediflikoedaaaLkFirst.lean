/-
  Those that want a thing alone get it in the order in which they asked.
-/
import Derived.Test.YtoediflikoedaaaLkSharedW
namespace Go.Proofs.Ytoediflikoedaaa
open Go Go.Proofs Go.RowKit Go.Shelf
attribute [local go_sem] Oper.semAt_some
def lk7 (L : List Int) : List Lk := L.map (fun x => ⟨x, 7, true⟩)
/-- p is alone with thing 7, and those of L wait for it. -/
def Al7 (p : Int) (L : List Int) (A : Ta) : Prop := A.held 7 = some ([p], true) ∧ A.rows 7 = (if L = [] then none else some (lk7 L)) ∧ ∀ i, i ≠ 7 → A.rows i = none
theorem al7_get (L : List Int) : ((if L = [] then none else some (lk7 L)) : Option (List Lk)).getD [] = lk7 L := by
  by_cases e : L = []
  · rw [if_pos e, e]; rfl
  · rw [if_neg e, Option.getD_some]
theorem al7_0 : Al7 (-1) [] (Ta.none.ask ⟨-1, 7, true⟩) := by
  refine ⟨?_, ?_, fun i hi => ?_⟩ <;> simp [Ta.ask, Ta.none, Ta.holds, holdB, besB, Ta.grant, putH, updC]
theorem al7_ask {A : Ta} {p x : Int} {L : List Int} (hA : A.Ok) (h : Al7 p L A) (hx : x ∉ L) (hp : x ≠ p) : A.askB ⟨x, 7, true⟩ = false ∧ Al7 p (L ++ [x]) (A.ask ⟨x, 7, true⟩) := by
  have hw : A.waits x = none := by
    cases e : A.waits x with
    | none => rfl
    | some l =>
      exfalso
      obtain ⟨a1, M, a2, a3⟩ := hA.wt x l e
      by_cases q : l.tg = 7
      · rw [q, h.2.1] at a2
        split at a2
        · cases a2
        · cases a2
          obtain ⟨y, hy, e2⟩ := List.mem_map.1 a3
          rw [← e2] at a1
          have a1 : y = x := a1
          exact hx (a1 ▸ hy)
      · rw [h.2.2 _ q] at a2; cases a2
  have e1 : A.holds x 7 = false := by unfold Ta.holds; rw [h.1]; simpa [holdB] using hp
  have e3 : besB (A.held 7) true = false := by rw [h.1]; rfl
  unfold Ta.askB Ta.ask
  simp only [hw, e1, e3, Bool.and_false]
  refine ⟨by first | trivial | rfl, h.1, ?_, fun i hi => ?_⟩
  · show updC A.rows 7 (some ((A.rows 7).getD [] ++ [(⟨x, 7, true⟩ : Lk)])) 7 = _
    rw [updC_same, h.2.1, al7_get, if_neg (by simp)]
    simp [lk7]
  · show updC A.rows 7 _ i = _
    rw [updC_other _ _ hi]
    exact h.2.2 i hi
theorem al7_rel {A : Ta} {p x : Int} {L : List Int} (h : Al7 p (x :: L) A) : A.relL p 7 = [⟨x, 7, true⟩] ∧ Al7 x L (A.rel p 7) := by
  have e1 : A.holds p 7 = true := by unfold Ta.holds; rw [h.1]; simp [holdB]
  obtain ⟨r1, r2, r3, r4, _⟩ := rel_at e1
  have hd : dropH (A.held 7) p = none := by rw [h.1]; simp [dropH, delS]
  have hr : A.rows 7 = some (lk7 (x :: L)) := by rw [h.2.1, if_neg (by simp)]
  have hb : besB none (⟨x, 7, true⟩ : Lk).al = true := rfl
  have hp : putH none (⟨x, 7, true⟩ : Lk) = ([x], true) := rfl
  have hl : lk7 (x :: L) = ⟨x, 7, true⟩ :: lk7 L := rfl
  rw [hd, hr, Option.getD_some, hl] at r2 r3 r4
  rw [runH_cons, if_pos hb, hp, (run_alone _ _).2] at r2
  rw [runN_cons, if_pos hb, hp, (run_alone _ _).1] at r3 r4
  refine ⟨by rw [r4]; rfl, r2, ?_, fun i hi => by rw [(r1 i hi).2]; exact h.2.2 i hi⟩
  rw [r3]
  simp only [leftR, List.length_cons, List.drop_succ_cons, List.drop_zero]
  by_cases q : L = []
  · subst q
    rfl
  · rw [if_neg q, if_neg]
    have : L.length ≠ 0 := fun e => q (List.eq_nil_of_length_eq_zero e)
    simp [lk7]
    omega
theorem al7_end {A : Ta} {p : Int} (h : Al7 p [] A) : A.relL p 7 = [] ∧ (A.rel p 7).held 7 = none := by
  have e1 : A.holds p 7 = true := by unfold Ta.holds; rw [h.1]; simp [holdB]
  obtain ⟨r1, r2, r3, r4, _⟩ := rel_at e1
  have hd : dropH (A.held 7) p = none := by rw [h.1]; simp [dropH, delS]
  have hr : A.rows 7 = none := by rw [h.2.1, if_pos rfl]
  rw [hd, hr] at r2 r4
  exact ⟨by rw [r4]; rfl, by rw [r2]; rfl⟩
theorem al7_holds {A : Ta} {p : Int} {L : List Int} (h : Al7 p L A) : A.holds p 7 = true := by unfold Ta.holds; rw [h.1]; simp [holdB]
/-- The table, and the row of those that asked beside it. -/
def FsO (w W : World) (t N : Nat) (P : Ta → Prop) (u : Value) (xs : List Int) : Prop := ∃ A, LkO (fun k => u.ownBlock = some k) w W t A N ∧ P A ∧ W.ownsRow w.heap.size 3 1 u xs.length (Iy xs)
section
variable {w W : World} {t N : Nat} {P Q : Ta → Prop} {u : Value} {xs : List Int}
theorem fs_ask (h : FsO w W t N P u xs) (l : Lk) (hl : l.wf) (hN : N ≤ 100) (r : Bool) (hPQ : ∀ A, A.Ok → P A → A.askB l = r ∧ Q (A.ask l)) : Calls Try.prog 11 #[ptV t, lkV l] W fun e W' => e = .returned (.bool r) ∧ Hid (FsO w W' t (N + 1) Q u xs) := by
  obtain ⟨A, h1, h2, h3⟩ := h
  refine (o_ask h1 l hl (by omega)).mono ?_
  rintro e W' ⟨rfl, HQ⟩
  obtain ⟨q1, q2⟩ := hPQ A h1.ok h2
  exact ⟨by rw [q1], Hid.mk ⟨_, HQ.out.1, q2, owns_at h3 (fun k hk => HQ.out.2 k hk)⟩⟩
theorem fs_add (h : FsO w W t N P u xs) (x : Int) (hn : xs.length ≤ 1000) : ∃ v' W', (Builtin.append_ #[39, 39] 39 #[u, .slice (some ⟨W.heap.size, 0, none⟩) 1 1]).run Try.prog (W.alloc (.cells #[.int .i64 x] 3)) = .ok v' W' ∧ (∃ ao c, v' = .slice ao (xs.length + 1) c) ∧ Hid (FsO w W' t N P v' (xs ++ [x])) := by
  obtain ⟨A, h1, h2, h3⟩ := h
  obtain ⟨v', W', p1, p2, p3, p4, g', p5⟩ := appendI W w.heap.size u xs x h3 h1.bel.size (by omega)
  refine ⟨v', W', p1, ?_, Hid.mk ⟨A, h1.side p3 (fun k hk => ⟨hk, ?_⟩) (fun k hk => ⟨own_lt p2 hk, ?_⟩), h2, p2⟩⟩
  · rcases p2.2 with ⟨_, h0⟩ | ⟨g9, c9, _, e, _⟩
    · simp at h0
    · exact ⟨some ⟨g9, 0, none⟩, c9, by rw [e]; simp⟩
  · rcases h3.2 with ⟨e, _⟩ | ⟨g9, _, _, e, hb, _⟩
    · rw [e] at hk; cases hk
    · rw [e] at hk
      have : g9 = k := Option.some.inj hk
      omega
  · rcases p4 with q | q
    · exact .inl (q ▸ hk)
    · rw [q] at hk
      exact .inr (by have := Option.some.inj hk; omega)
theorem fs_rel (h : FsO w W t N P u xs) (p : Int) (hp : (Lit.int .i64 p).wf = true) (hN : N ≤ 100) (G : List Lk) (hPQ : ∀ A, A.Ok → P A → A.relL p 7 = G ∧ Q (A.rel p 7)) : Calls Try.prog 14 #[ptV t, .int .i64 p, .int .i64 7] W fun e W' => ∃ ao c, e = .returned (.slice ao G.length c) ∧ Hid (SlOk W' (.slice ao G.length c) G ∧ FsO w W' t N Q u xs) := by
  obtain ⟨A, h1, h2, h3⟩ := h
  obtain ⟨q1, q2⟩ := hPQ A h1.ok h2
  refine (o_rel h1 p 7 hp (wf_of (by omega)) (by omega)).mono ?_
  rintro e W' ⟨ao, c, rfl, HQ⟩
  rw [q1] at HQ ⊢
  obtain ⟨a1, a2, a3⟩ := HQ.out
  exact ⟨ao, c, rfl, Hid.mk ⟨a1, _, a2.side (Only.refl (fun _ => False) W') (fun _ q => q.elim) (fun k hk => ⟨a2.lt k (.inl hk), .inl (.inl hk)⟩), q2, owns_at h3 (fun k hk => a3 k hk)⟩⟩
theorem fs_holds (h : FsO w W t N P u xs) (p : Int) (hp : (Lit.int .i64 p).wf = true) (r : Bool) (hP : ∀ A, P A → A.holds p 7 = r) : Calls Try.prog 19 #[ptV t, .int .i64 p, .int .i64 7] W fun e W' => e = .returned (.bool r) ∧ Hid (FsO w W' t N P u xs ∧ Below W.heap.size W W') := by
  obtain ⟨A, h1, h2, h3⟩ := h
  refine (o_holds h1 p 7 hp (wf_of (by omega))).mono ?_
  rintro e W' ⟨rfl, HQ⟩
  exact ⟨by rw [hP A h2], Hid.mk ⟨⟨A, HQ.out.1, h2, owns_at h3 (fun k hk => HQ.out.2.block k (own_lt h3 hk))⟩, HQ.out.2⟩⟩
theorem fs_grow {W' : World} (h : FsO w W t N P u xs) (hB : Below W.heap.size W W') : FsO w W' t N P u xs := by
  obtain ⟨A, h1, h2, h3⟩ := h
  exact ⟨A, h1.grow hB, h2, owns_at h3 (fun k hk => hB.block k (own_lt h3 hk))⟩
theorem fs_row (h : FsO w W t N P u xs) : Below w.heap.size w W ∧ ∃ ao c, u = .slice ao xs.length c ∧ LAt W ao xs.length xs := by
  obtain ⟨A, h1, h2, h3⟩ := h
  exact ⟨h1.bel, owns_lat h3⟩
end
end Go.Proofs.Ytoediflikoedaaa
