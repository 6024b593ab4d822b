/-
  Many hold a thing together, one that wants it alone waits for all of them, and those behind it wait, too.
-/
import Derived.Test.YtoediflikoedaaaLkO
namespace Go.Proofs.Ytoediflikoedaaa
open Go Go.Proofs Go.RowKit Go.Shelf
def rr (a n : Nat) : List Int := (List.range' a (n - a)).map (fun j : Nat => (j : Int))
theorem rr_nil {a n : Nat} (h : n ≤ a) : rr a n = [] := by unfold rr; rw [show n - a = 0 by omega]; rfl
theorem rr_cons {a n : Nat} (h : a < n) : rr a n = (a : Int) :: rr (a + 1) n := by
  unfold rr
  rw [show n - a = (n - (a + 1)) + 1 by omega, List.range'_succ]
  rfl
theorem rr_snoc {a n : Nat} (h : a ≤ n) : rr a (n + 1) = rr a n ++ [(n : Int)] := by
  unfold rr
  rw [show n + 1 - a = (n - a) + 1 by omega, List.range'_concat, List.map_append]
  simp
  omega
theorem rr_mem {a n : Nat} {x : Int} (h : x ∈ rr a n) : (a : Int) ≤ x ∧ x < n := by
  unfold rr at h
  obtain ⟨j, hj, rfl⟩ := List.mem_map.1 h
  rw [List.mem_range'_1] at hj
  omega
theorem rr_len (a n : Nat) : (rr a n).length = n - a := by unfold rr; simp
theorem ins_end {x : Int} {L : List Int} (h : ∀ y ∈ L, y < x) : insS x L = L ++ [x] := by
  induction L with
  | nil => rfl
  | cons z r ih =>
    have hz := h z (by simp)
    unfold insS
    rw [if_neg (by omega), if_neg (by omega), ih (fun y hy => h y (by simp [hy]))]
    rfl
theorem del_head {a n : Nat} (h : a < n) : delS (a : Int) (rr a n) = rr (a + 1) n := by
  rw [rr_cons h]
  unfold delS
  rw [List.filter_cons, if_neg (by simp)]
  exact del_none (fun hm => by have := (rr_mem hm).1; omega)
/-- Of thing 1 alone is something known. -/
def One (A : Ta) (h : Option (List Int × Bool)) (L : Option (List Lk)) : Prop := A.held 1 = h ∧ A.rows 1 = L ∧ ∀ i, i ≠ 1 → A.held i = none ∧ A.rows i = none
section
variable {A : Ta} {h : Option (List Int × Bool)} {L : Option (List Lk)}
theorem one_none : One Ta.none none none := ⟨rfl, rfl, fun _ _ => ⟨rfl, rfl⟩⟩
theorem one_in (hA : A.Ok) (h1 : One A h L) {th : Int} {l : Lk} (hw : A.waits th = some l) : l.tg = 1 ∧ l.th = th ∧ l ∈ L.getD [] := by
  obtain ⟨a1, M, a2, a3⟩ := hA.wt th l hw
  by_cases e : l.tg = 1
  · rw [e, h1.2.1] at a2
    rw [a2]
    exact ⟨e, a1, a3⟩
  · rw [(h1.2.2 _ e).2] at a2
    cases a2
theorem one_waits (hA : A.Ok) (h1 : One A h L) {th : Int} (hn : th ∉ (L.getD []).map Lk.th) : A.waits th = none := by
  cases e : A.waits th with
  | none => rfl
  | some l =>
    obtain ⟨_, e2, e3⟩ := one_in hA h1 e
    exact absurd (List.mem_map.2 ⟨l, e3, e2⟩) hn
theorem one_yes (hA : A.Ok) (h1 : One A h none) {l : Lk} (hl : l.tg = 1) (hb : besB h l.al = true) (hh : holdB h l.th = false) : A.askB l = true ∧ One (A.ask l) (some (putH h l)) none := by
  have hw : A.waits l.th = none := one_waits hA h1 (by simp)
  have e1 : A.holds l.th l.tg = false := by unfold Ta.holds; rw [hl, h1.1]; exact hh
  have e2 : A.rows l.tg = none := by rw [hl]; exact h1.2.1
  have e3 : A.held l.tg = h := by rw [hl]; exact h1.1
  unfold Ta.askB Ta.ask
  rw [hw, e1, e2, e3, hb]
  refine ⟨rfl, ?_, h1.2.1, fun i hi => ⟨?_, (h1.2.2 i hi).2⟩⟩
  · show updC A.held l.tg (some (putH (A.held l.tg) l)) 1 = _
    rw [e3, hl, updC_same]
  · show updC A.held l.tg (some (putH (A.held l.tg) l)) i = _
    rw [updC_other _ _ (by rw [hl]; exact hi)]
    exact (h1.2.2 i hi).1
theorem one_no (hA : A.Ok) (h1 : One A h L) {l : Lk} (hl : l.tg = 1) (hb : L ≠ none ∨ besB h l.al = false) (hh : holdB h l.th = false) (hn : l.th ∉ (L.getD []).map Lk.th) : A.askB l = false ∧ One (A.ask l) h (some (L.getD [] ++ [l])) := by
  have hw : A.waits l.th = none := one_waits hA h1 hn
  have e1 : A.holds l.th l.tg = false := by unfold Ta.holds; rw [hl, h1.1]; exact hh
  have e2 : A.rows l.tg = L := by rw [hl]; exact h1.2.1
  have e3 : A.held l.tg = h := by rw [hl]; exact h1.1
  have e4 : (L.isNone && besB h l.al) = false := by
    rcases hb with q | q
    · cases L with
      | none => exact absurd rfl q
      | some _ => rfl
    · rw [q, Bool.and_false]
  unfold Ta.askB Ta.ask
  rw [hw, e1, e2, e3, e4]
  refine ⟨rfl, h1.1, ?_, fun i hi => ⟨(h1.2.2 i hi).1, ?_⟩⟩
  · show updC A.rows l.tg (some ((A.rows l.tg).getD [] ++ [l])) 1 = _
    rw [e2, hl, updC_same]
  · show updC A.rows l.tg (some ((A.rows l.tg).getD [] ++ [l])) i = _
    rw [updC_other _ _ (by rw [hl]; exact hi)]
    exact (h1.2.2 i hi).2
theorem one_rel (h1 : One A h L) {p : Int} (hh : holdB h p = true) : One (A.rel p 1) (runH (dropH h p) (L.getD [])) (leftR L (runN (dropH h p) (L.getD []))) ∧ A.relL p 1 = (L.getD []).take (runN (dropH h p) (L.getD [])) := by
  have e1 : A.holds p 1 = true := by unfold Ta.holds; rw [h1.1]; exact hh
  obtain ⟨r1, r2, r3, r4, _⟩ := rel_at e1
  rw [h1.1, h1.2.1] at r2 r3 r4
  exact ⟨⟨r2, r3, fun i hi => ⟨(r1 i hi).1.trans (h1.2.2 i hi).1, (r1 i hi).2.trans (h1.2.2 i hi).2⟩⟩, r4⟩
end
/-- Nobody that waits has what it waits for. -/
def Ta.Nh (A : Ta) : Prop := ∀ th l, A.waits th = some l → A.holds th l.tg = false
theorem nh_steps {A A' : Ta} (hs : Steps A A') (hA : A.Ok) (hN : A.Nh) : A'.Ok ∧ A'.Nh := by
  induction hs with
  | refl => exact ⟨hA, hN⟩
  | step p x _ hp ih =>
    obtain ⟨i1, i2⟩ := ih
    refine ⟨ok_rel i1 p x, fun th l hw => ?_⟩
    obtain ⟨r1, r2, r3, _⟩ := rel_holds i1 x hp
    rw [r2] at hw
    split at hw
    · cases hw
    · rename_i hn
      cases e : (Ta.rel _ p x).holds th l.tg with
      | false => rfl
      | true =>
        rcases r1 th l.tg e with ⟨q, _⟩ | ⟨_, q⟩
        · rw [i2 th l hw] at q
          cases q
        · exact absurd q hn
theorem only_steps {A A' : Ta} (hs : Steps A A') (h : ∀ i, i ≠ 1 → A.held i = none ∧ A.rows i = none) : ∀ i, i ≠ 1 → A'.held i = none ∧ A'.rows i = none := by
  induction hs with
  | refl => exact h
  | step p x _ hp ih =>
    intro i hi
    cases hh : Ta.holds _ p x with
    | false => rw [(rel_same hh).1]; exact ih i hi
    | true =>
      by_cases e : x = 1
      · obtain ⟨r1, _⟩ := rel_at hh
        have := r1 i (by rw [e]; exact hi)
        rw [this.1, this.2]
        exact ih i hi
      · unfold Ta.holds at hh
        rw [(ih x e).1] at hh
        cases hh
/-- Where all wait for one thing, nobody is stuck. -/
theorem one_free {A A' : Ta} {h : Option (List Int × Bool)} {L : Option (List Lk)} (hA : A.Ok) (h1 : One A h L) (hN : A.Nh) (hs : Steps A.waited A') (hd : A'.Done) {K : List Int} (hK : KeyL (intF lkV A'.waits) K) : K = [] := by
  have hw : A.waited.Nh := fun th l q => by
    have := hN th l q
    show holdB (if (A.rows l.tg).isSome then A.held l.tg else Option.none) th = false
    split
    · exact this
    · rfl
  obtain ⟨b1, b2⟩ := nh_steps hs (ok_waited hA) hw
  have b3 := only_steps hs (fun i hi => ⟨by
    show (if (A.rows i).isSome then A.held i else Option.none) = none
    rw [(h1.2.2 i hi).1]
    split <;> rfl, (h1.2.2 i hi).2⟩)
  rcases List.eq_nil_or_concat K with q | ⟨K1, x, q⟩
  · exact q
  · exfalso
    have hx := hK.2 x
    rw [intF_int, Option.isSome_map, q] at hx
    simp at hx
    obtain ⟨l, hl⟩ := Option.isSome_iff_exists.1 hx
    obtain ⟨_, M, c1, c2⟩ := b1.wt x l hl
    obtain ⟨z, hz⟩ := Option.isSome_iff_exists.1 (b1.row _ M c1).2.1
    obtain ⟨d1, _⟩ := b1.hd _ z hz
    obtain ⟨th, hth⟩ := List.exists_mem_of_ne_nil _ d1
    have hh : A'.holds th l.tg = true := by unfold Ta.holds; rw [hz]; simpa [holdB] using hth
    obtain ⟨l2, hl2⟩ := Option.isSome_iff_exists.1 (hd th _ hh)
    obtain ⟨_, M2, e1, e2⟩ := b1.wt th l2 hl2
    have t1 : l.tg = 1 := by
      by_cases e : l.tg = 1
      · exact e
      · rw [(b3 _ e).2] at c1; cases c1
    have t2 : l2.tg = 1 := by
      by_cases e : l2.tg = 1
      · exact e
      · rw [(b3 _ e).2] at e1; cases e1
    have := b2 th l2 hl2
    rw [t2, ← t1, hh] at this
    cases this
def hI (i : Nat) : Option (List Int × Bool) := if i = 0 then none else some (rr 0 i, false)
def l100 : Lk := ⟨100, 1, true⟩
def bh (k : Nat) : List Lk := (rr 200 (200 + k)).map (fun x => ⟨x, 1, false⟩)
theorem hI_put (i : Nat) : some (putH (hI i) ⟨(i : Int), 1, false⟩) = hI (i + 1) := by
  have e2 : hI (i + 1) = some (rr 0 (i + 1), false) := by unfold hI; rw [if_neg (Nat.succ_ne_zero i)]
  rw [e2]
  by_cases e : i = 0
  · subst e
    rw [rr_cons (by omega), rr_nil (by omega)]
    rfl
  · have e3 : hI i = some (rr 0 i, false) := by unfold hI; rw [if_neg e]
    rw [e3]
    show some (insS (i : Int) (rr 0 i), false) = _
    rw [ins_end (fun y hy => (rr_mem hy).2), ← rr_snoc (by omega)]
theorem hI_hold (i : Nat) (x : Int) (hx : (i : Int) ≤ x) : holdB (hI i) x = false := by
  unfold hI
  split
  · rfl
  · simp only [holdB, decide_eq_false_iff_not]
    exact fun hm => by have := (rr_mem hm).2; omega
theorem bh_len (k : Nat) : (bh k).length = k := by unfold bh; rw [List.length_map, rr_len]; omega
theorem bh_snoc (k : Nat) : bh (k + 1) = bh k ++ [⟨((200 + k : Nat) : Int), 1, false⟩] := by
  unfold bh
  rw [← Nat.add_assoc, rr_snoc (by omega), List.map_append]
  rfl
theorem bh_mem {k : Nat} {x : Int} (h : x ∈ (bh k).map Lk.th) : 200 ≤ x ∧ x < 200 + k := by
  unfold bh at h
  rw [List.map_map] at h
  obtain ⟨y, hy, rfl⟩ := List.mem_map.1 h
  have := rr_mem hy
  show (200 : Int) ≤ y ∧ y < 200 + k
  omega
theorem run_alone (S : List Int) (M : List Lk) : runN (some (S, true)) M = 0 ∧ runH (some (S, true)) M = some (S, true) := by
  cases M with
  | nil => exact ⟨rfl, rfl⟩
  | cons l r =>
    have : besB (some (S, true)) l.al = false := by simp [besB]
    rw [runN_cons, runH_cons, this]
    exact ⟨rfl, rfl⟩
theorem run_many (d : Nat) : ∀ (k a c : Nat), d - c = k → a < c → c ≤ d → runN (some (rr a c, false)) ((rr c d).map (fun x => (⟨x, 1, false⟩ : Lk))) = k ∧ runH (some (rr a c, false)) ((rr c d).map (fun x => (⟨x, 1, false⟩ : Lk))) = some (rr a d, false) := by
  intro k
  induction k with
  | zero =>
    intro a c h1 h2 h3
    obtain rfl : c = d := by omega
    rw [rr_nil (a := c) (Nat.le_refl _)]
    exact ⟨rfl, rfl⟩
  | succ k ih =>
    intro a c h1 h2 h3
    rw [rr_cons (a := c) (by omega), List.map_cons, runN_cons, runH_cons]
    have e1 : besB (some (rr a c, false)) false = true := rfl
    have e2 : putH (some (rr a c, false)) ⟨(c : Int), 1, false⟩ = (rr a (c + 1), false) := by
      show (insS (c : Int) (rr a c), false) = _
      rw [ins_end (fun y hy => (rr_mem hy).2), ← rr_snoc (by omega)]
    rw [if_pos e1, if_pos e1, e2]
    obtain ⟨q1, q2⟩ := ih a (c + 1) (by omega) (by omega) (by omega)
    exact ⟨by rw [q1], q2⟩
theorem run_bq (q b : Nat) : runN none ((rr q (q + b)).map (fun x => (⟨x, 1, false⟩ : Lk))) = b ∧ (holdL (runH none ((rr q (q + b)).map (fun x => (⟨x, 1, false⟩ : Lk))))).length = b := by
  cases b with
  | zero => rw [rr_nil (by omega)]; exact ⟨rfl, rfl⟩
  | succ b =>
    rw [rr_cons (by omega), List.map_cons, runN_cons, runH_cons]
    have e1 : besB none false = true := rfl
    have e2 : putH none ⟨(q : Int), 1, false⟩ = (rr q (q + 1), false) := by
      rw [rr_cons (by omega), rr_nil (by omega)]
      simp only [putH]
    rw [if_pos e1, if_pos e1, e2]
    obtain ⟨q1, q2⟩ := run_many (q + (b + 1)) b q (q + 1) (by omega) (by omega) (by omega)
    refine ⟨by rw [q1], ?_⟩
    rw [q2]
    show (rr q (q + (b + 1))).length = _
    rw [rr_len]
    omega
theorem run_bh (b : Nat) : runN none (bh b) = b ∧ (holdL (runH none (bh b))).length = b := run_bq 200 b
/-- Those that hold it go, one by one. -/
def sh3 (n b i : Nat) (A : Ta) : Prop := (i < n ∧ One A (some (rr i n, false)) (some (l100 :: bh b))) ∨ (i = n ∧ One A (some ([100], true)) (if b = 0 then none else some (bh b)))
theorem sh3_step {A : Ta} {n b i : Nat} (h : sh3 n b i A) (hi : i < n) : (A.relL i 1).length = (if i + 1 = n then 1 else 0) ∧ sh3 n b (i + 1) (A.rel i 1) := by
  obtain ⟨_, h1⟩ := h.resolve_right (fun q => by omega)
  have hh : holdB (some (rr i n, false)) (i : Int) = true := by rw [rr_cons hi]; simp [holdB]
  obtain ⟨o1, o2⟩ := one_rel h1 hh
  have hd : delS (i : Int) (rr i n) = rr (i + 1) n := del_head hi
  simp only [Option.getD_some] at o1 o2
  by_cases e : i + 1 = n
  · have hdr : dropH (some (rr i n, false)) (i : Int) = none := by
      simp only [dropH, hd]
      rw [rr_nil (by omega), if_pos rfl]
    rw [hdr] at o1 o2
    have e1 : besB none l100.al = true := rfl
    have e2 : putH none l100 = ([100], true) := rfl
    rw [runN_cons, runH_cons, if_pos e1, if_pos e1, e2, (run_alone _ _).1, (run_alone _ _).2] at o1
    rw [runN_cons, if_pos e1, e2, (run_alone _ _).1] at o2
    refine ⟨by rw [o2, if_pos e]; rfl, .inr ⟨e, ?_⟩⟩
    have e3 : leftR (some (l100 :: bh b)) (0 + 1) = if b = 0 then none else some (bh b) := by
      simp only [leftR, List.length_cons, bh_len, List.drop_succ_cons, List.drop_zero]
      by_cases q : b = 0
      · subst q; rfl
      · rw [if_neg (by omega), if_neg q]
    rw [e3] at o1
    exact o1
  · have hdr : dropH (some (rr i n, false)) (i : Int) = some (rr (i + 1) n, false) := by
      simp only [dropH, hd]
      rw [if_neg (by rw [rr_cons (by omega)]; simp)]
    rw [hdr] at o1 o2
    have e1 : besB (some (rr (i + 1) n, false)) l100.al = false := rfl
    rw [runN_cons, runH_cons, e1] at o1
    rw [runN_cons, e1] at o2
    refine ⟨by rw [o2, if_neg e]; rfl, .inl ⟨by omega, ?_⟩⟩
    have e3 : leftR (some (l100 :: bh b)) 0 = some (l100 :: bh b) := rfl
    have o1' : One (A.rel i 1) (some (rr (i + 1) n, false)) (leftR (some (l100 :: bh b)) 0) := o1
    rw [e3] at o1'
    exact o1'
theorem sh4 {A : Ta} {n b : Nat} (h : sh3 n b n A) : holdL (A.held 1) = [100] ∧ (A.relL 100 1).length = b ∧ (holdL ((A.rel 100 1).held 1)).length = b := by
  obtain ⟨_, h1⟩ := h.resolve_left (fun q => by omega)
  have hh : holdB (some (([100] : List Int), true)) (100 : Int) = true := by simp [holdB]
  obtain ⟨o1, o2⟩ := one_rel h1 hh
  have hdr : dropH (some (([100] : List Int), true)) (100 : Int) = none := by simp [dropH, delS]
  have hg : (if b = 0 then (none : Option (List Lk)) else some (bh b)).getD [] = bh b := by
    by_cases q : b = 0
    · subst q; rfl
    · rw [if_neg q, Option.getD_some]
  rw [hdr, hg] at o1 o2
  refine ⟨by rw [h1.1]; simp only [holdL], ?_, ?_⟩
  · rw [o2, (run_bh b).1, List.length_take, bh_len, Nat.min_self]
  · rw [o1.1]
    exact (run_bh b).2
theorem sh_nh {A : Ta} {n b : Nat} (hA : A.Ok) (h : One A (hI n) (some (l100 :: bh b))) (hn : n ≤ 20) : A.Nh := by
  intro th l hw
  obtain ⟨e1, e2, e3⟩ := one_in hA h hw
  unfold Ta.holds
  rw [e1, h.1]
  refine hI_hold n th ?_
  rcases List.mem_cons.1 (show l ∈ l100 :: bh b from e3) with q | q
  · rw [q] at e2
    have : (100 : Int) = th := e2
    omega
  · have := bh_mem (List.mem_map.2 ⟨l, q, rfl⟩)
    rw [e2] at this
    omega
end Go.Proofs.Ytoediflikoedaaa
