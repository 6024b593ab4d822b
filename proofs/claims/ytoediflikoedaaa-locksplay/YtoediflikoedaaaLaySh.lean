/-
  Many hold a thing together, one that wants it alone waits for all of them, and those behind it wait, too.
-/
import Derived.Test.YtoediflikoedaaaLkO
namespace Go.Proofs.Ytoediflikoedaaa
open Go Go.Proofs Go.RowKit Go.Shelf
def rr (a n : Nat) : List Int := (List.range' a (n - a)).map (fun j : Nat => (j : Int))
theorem rr_nil {a n : Nat} (h : n ≤ a) : rr a n = [] := by unfold rr; rw [show n - a = 0 by omega]; rfl
theorem rr_cons {a n : Nat} (h : a < n) : rr a n = (a : Int) :: rr (a + 1) n := by
  unfold rr
  rw [show n - a = (n - (a + 1)) + 1 by omega, List.range'_succ]
  rfl
theorem rr_snoc {a n : Nat} (h : a ≤ n) : rr a (n + 1) = rr a n ++ [(n : Int)] := by
  unfold rr
  rw [show n + 1 - a = (n - a) + 1 by omega, List.range'_concat, List.map_append]
  simp
  omega
theorem rr_mem {a n : Nat} {x : Int} (h : x ∈ rr a n) : (a : Int) ≤ x ∧ x < n := by
  unfold rr at h
  obtain ⟨j, hj, rfl⟩ := List.mem_map.1 h
  rw [List.mem_range'_1] at hj
  omega
theorem rr_len (a n : Nat) : (rr a n).length = n - a := by unfold rr; simp
theorem ins_end {x : Int} {L : List Int} (h : ∀ y ∈ L, y < x) : insS x L = L ++ [x] := by
  induction L with
  | nil => rfl
  | cons z r ih =>
    have hz := h z (by simp)
    unfold insS
    rw [if_neg (by omega), if_neg (by omega), ih (fun y hy => h y (by simp [hy]))]
    rfl
theorem del_head {a n : Nat} (h : a < n) : delS (a : Int) (rr a n) = rr (a + 1) n := by
  rw [rr_cons h]
  unfold delS
  rw [List.filter_cons, if_neg (by simp)]
  exact del_none (fun hm => by have := (rr_mem hm).1; omega)
/-- Of thing 1 alone is something known. -/
def One (A : Ta) (h : Option (List Int × Bool)) (L : Option (List Lk)) : Prop := A.held 1 = h ∧ A.rows 1 = L ∧ ∀ i, i ≠ 1 → A.held i = none ∧ A.rows i = none
section
variable {A : Ta} {h : Option (List Int × Bool)} {L : Option (List Lk)}
theorem one_none : One Ta.none none none := ⟨rfl, rfl, fun _ _ => ⟨rfl, rfl⟩⟩
theorem one_in (hA : A.Ok) (h1 : One A h L) {th : Int} {l : Lk} (hw : A.waits th = some l) : l.tg = 1 ∧ l.th = th ∧ l ∈ L.getD [] := by
  obtain ⟨a1, M, a2, a3⟩ := hA.wt th l hw
  by_cases e : l.tg = 1
  · rw [e, h1.2.1] at a2
    rw [a2]
    exact ⟨e, a1, a3⟩
  · rw [(h1.2.2 _ e).2] at a2
    cases a2
theorem one_waits (hA : A.Ok) (h1 : One A h L) {th : Int} (hn : th ∉ (L.getD []).map Lk.th) : A.waits th = none := by
  cases e : A.waits th with
  | none => rfl
  | some l =>
    obtain ⟨_, e2, e3⟩ := one_in hA h1 e
    exact absurd (List.mem_map.2 ⟨l, e3, e2⟩) hn
theorem one_yes (hA : A.Ok) (h1 : One A h none) {l : Lk} (hl : l.tg = 1) (hb : besB h l.al = true) (hh : holdB h l.th = false) : A.askB l = true ∧ One (A.ask l) (some (putH h l)) none := by
  have hw : A.waits l.th = none := one_waits hA h1 (by simp)
  have e1 : A.holds l.th l.tg = false := by unfold Ta.holds; rw [hl, h1.1]; exact hh
  have e2 : A.rows l.tg = none := by rw [hl]; exact h1.2.1
  have e3 : A.held l.tg = h := by rw [hl]; exact h1.1
  unfold Ta.askB Ta.ask
  rw [hw, e1, e2, e3, hb]
  refine ⟨rfl, ?_, h1.2.1, fun i hi => ⟨?_, (h1.2.2 i hi).2⟩⟩
  · show updC A.held l.tg (some (putH (A.held l.tg) l)) 1 = _
    rw [e3, hl, updC_same]
  · show updC A.held l.tg (some (putH (A.held l.tg) l)) i = _
    rw [updC_other _ _ (by rw [hl]; exact hi)]
    exact (h1.2.2 i hi).1
theorem one_no (hA : A.Ok) (h1 : One A h L) {l : Lk} (hl : l.tg = 1) (hb : L ≠ none ∨ besB h l.al = false) (hh : holdB h l.th = false) (hn : l.th ∉ (L.getD []).map Lk.th) : A.askB l = false ∧ One (A.ask l) h (some (L.getD [] ++ [l])) := by
  have hw : A.waits l.th = none := one_waits hA h1 hn
  have e1 : A.holds l.th l.tg = false := by unfold Ta.holds; rw [hl, h1.1]; exact hh
  have e2 : A.rows l.tg = L := by rw [hl]; exact h1.2.1
  have e3 : A.held l.tg = h := by rw [hl]; exact h1.1
  have e4 : (L.isNone && besB h l.al) = false := by
    rcases hb with q | q
    · cases L with
      | none => exact absurd rfl q
      | some _ => rfl
    · rw [q, Bool.and_false]
  unfold Ta.askB Ta.ask
  rw [hw, e1, e2, e3, e4]
  refine ⟨rfl, h1.1, ?_, fun i hi => ⟨(h1.2.2 i hi).1, ?_⟩⟩
  · show updC A.rows l.tg (some ((A.rows l.tg).getD [] ++ [l])) 1 = _
    rw [e2, hl, updC_same]
  · show updC A.rows l.tg (some ((A.rows l.tg).getD [] ++ [l])) i = _
    rw [updC_other _ _ (by rw [hl]; exact hi)]
    exact (h1.2.2 i hi).2
theorem one_rel (h1 : One A h L) {p : Int} (hh : holdB h p = true) : One (A.rel p 1) (runH (dropH h p) (L.getD [])) (leftR L (runN (dropH h p) (L.getD []))) ∧ A.relL p 1 = (L.getD []).take (runN (dropH h p) (L.getD [])) := by
  have e1 : A.holds p 1 = true := by unfold Ta.holds; rw [h1.1]; exact hh
  obtain ⟨r1, r2, r3, r4, _⟩ := rel_at e1
  rw [h1.1, h1.2.1] at r2 r3 r4
  exact ⟨⟨r2, r3, fun i hi => ⟨(r1 i hi).1.trans (h1.2.2 i hi).1, (r1 i hi).2.trans (h1.2.2 i hi).2⟩⟩, r4⟩
end
/-- Nobody that waits has what it waits for. -/
def Ta.Nh (A : Ta) : Prop := ∀ th l, A.waits th = some l → A.holds th l.tg = false
theorem nh_steps {A A' : Ta} (hs : Steps A A') (hA : A.Ok) (hN : A.Nh) : A'.Ok ∧ A'.Nh := by
  induction hs with
  | refl => exact ⟨hA, hN⟩
  | step p x _ hp ih =>
    obtain ⟨i1, i2⟩ := ih
    refine ⟨ok_rel i1 p x, fun th l hw => ?_⟩
    obtain ⟨r1, r2, r3, _⟩ := rel_holds i1 x hp
    rw [r2] at hw
    split at hw
    · cases hw
    · rename_i hn
      cases e : (Ta.rel _ p x).holds th l.tg with
      | false => rfl
      | true =>
        rcases r1 th l.tg e with ⟨q, _⟩ | ⟨_, q⟩
        · rw [i2 th l hw] at q
          cases q
        · exact absurd q hn
theorem only_steps {A A' : Ta} (hs : Steps A A') (h : ∀ i, i ≠ 1 → A.held i = none ∧ A.rows i = none) : ∀ i, i ≠ 1 → A'.held i = none ∧ A'.rows i = none := by
  induction hs with
  | refl => exact h
  | step p x _ hp ih =>
    intro i hi
    cases hh : Ta.holds _ p x with
    | false => rw [(rel_same hh).1]; exact ih i hi
    | true =>
      by_cases e : x = 1
      · obtain ⟨r1, _⟩ := rel_at hh
        have := r1 i (by rw [e]; exact hi)
        rw [this.1, this.2]
        exact ih i hi
      · unfold Ta.holds at hh
        rw [(ih x e).1] at hh
        cases hh
/-- Where all wait for one thing, nobody is stuck. -/
theorem one_free {A A' : Ta} {h : Option (List Int × Bool)} {L : Option (List Lk)} (hA : A.Ok) (h1 : One A h L) (hN : A.Nh) (hs : Steps A.waited A') (hd : A'.Done) {K : List Int} (hK : KeyL (intF lkV A'.waits) K) : K = [] := by
  have hw : A.waited.Nh := fun th l q => by
    have := hN th l q
    show holdB (if (A.rows l.tg).isSome then A.held l.tg else Option.none) th = false
    split
    · exact this
    · rfl
  obtain ⟨b1, b2⟩ := nh_steps hs (ok_waited hA) hw
  have b3 := only_steps hs (fun i hi => ⟨by
    show (if (A.rows i).isSome then A.held i else Option.none) = none
    rw [(h1.2.2 i hi).1]
    split <;> rfl, (h1.2.2 i hi).2⟩)
  rcases List.eq_nil_or_concat K with q | ⟨K1, x, q⟩
  · exact q
  · exfalso
    have hx := hK.2 x
    rw [intF_int, Option.isSome_map, q] at hx
    simp at hx
    obtain ⟨l, hl⟩ := Option.isSome_iff_exists.1 hx
    obtain ⟨_, M, c1, c2⟩ := b1.wt x l hl
    obtain ⟨z, hz⟩ := Option.isSome_iff_exists.1 (b1.row _ M c1).2.1
    obtain ⟨d1, _⟩ := b1.hd _ z hz
    obtain ⟨th, hth⟩ := List.exists_mem_of_ne_nil _ d1
    have hh : A'.holds th l.tg = true := by unfold Ta.holds; rw [hz]; simpa [holdB] using hth
    obtain ⟨l2, hl2⟩ := Option.isSome_iff_exists.1 (hd th _ hh)
    obtain ⟨_, M2, e1, e2⟩ := b1.wt th l2 hl2
    have t1 : l.tg = 1 := by
      by_cases e : l.tg = 1
      · exact e
      · rw [(b3 _ e).2] at c1; cases c1
    have t2 : l2.tg = 1 := by
      by_cases e : l2.tg = 1
      · exact e
      · rw [(b3 _ e).2] at e1; cases e1
    have := b2 th l2 hl2
    rw [t2, ← t1, hh] at this
    cases this
def hI (i : Nat) : Option (List Int × Bool) := if i = 0 then none else some (rr 0 i, false)
def l100 : Lk := ⟨100, 1, true⟩
def bh (k : Nat) : List Lk := (rr 200 (200 + k)).map (fun x => ⟨x, 1, false⟩)
theorem hI_put (i : Nat) : some (putH (hI i) ⟨(i : Int), 1, false⟩) = hI (i + 1) := by
  have e2 : hI (i + 1) = some (rr 0 (i + 1), false) := by unfold hI; rw [if_neg (Nat.succ_ne_zero i)]
  rw [e2]
  by_cases e : i = 0
  · subst e
    rw [rr_cons (by omega), rr_nil (by omega)]
    rfl
  · have e3 : hI i = some (rr 0 i, false) := by unfold hI; rw [if_neg e]
    rw [e3]
    show some (insS (i : Int) (rr 0 i), false) = _
    rw [ins_end (fun y hy => (rr_mem hy).2), ← rr_snoc (by omega)]
theorem hI_hold (i : Nat) (x : Int) (hx : (i : Int) ≤ x) : holdB (hI i) x = false := by
  unfold hI
  split
  · rfl
  · simp only [holdB, decide_eq_false_iff_not]
    exact fun hm => by have := (rr_mem hm).2; omega
theorem bh_len (k : Nat) : (bh k).length = k := by unfold bh; rw [List.length_map, rr_len]; omega
theorem bh_snoc (k : Nat) : bh (k + 1) = bh k ++ [⟨((200 + k : Nat) : Int), 1, false⟩] := by
  unfold bh
  rw [← Nat.add_assoc, rr_snoc (by omega), List.map_append]
  rfl
theorem bh_mem {k : Nat} {x : Int} (h : x ∈ (bh k).map Lk.th) : 200 ≤ x ∧ x < 200 + k := by
  unfold bh at h
  rw [List.map_map] at h
  obtain ⟨y, hy, rfl⟩ := List.mem_map.1 h
  have := rr_mem hy
  show (200 : Int) ≤ y ∧ y < 200 + k
  omega
theorem run_alone (S : List Int) (M : List Lk) : runN (some (S, true)) M = 0 ∧ runH (some (S, true)) M = some (S, true) := by
  cases M with
  | nil => exact ⟨rfl, rfl⟩
  | cons l r =>
    have : besB (some (S, true)) l.al = false := by simp [besB]
    rw [runN_cons, runH_cons, this]
    exact ⟨rfl, rfl⟩
theorem run_many (d : Nat) : ∀ (k a c : Nat), d - c = k → a < c → c ≤ d → runN (some (rr a c, false)) ((rr c d).map (fun x => (⟨x, 1, false⟩ : Lk))) = k ∧ runH (some (rr a c, false)) ((rr c d).map (fun x => (⟨x, 1, false⟩ : Lk))) = some (rr a d, false) := by
  intro k
  induction k with
  | zero =>
    intro a c h1 h2 h3
    obtain rfl : c = d := by omega
    rw [rr_nil (a := c) (Nat.le_refl _)]
    exact ⟨rfl, rfl⟩
  | succ k ih =>
    intro a c h1 h2 h3
    rw [rr_cons (a := c) (by omega), List.map_cons, runN_cons, runH_cons]
    have e1 : besB (some (rr a c, false)) false = true := rfl
    have e2 : putH (some (rr a c, false)) ⟨(c : Int), 1, false⟩ = (rr a (c + 1), false) := by
      show (insS (c : Int) (rr a c), false) = _
      rw [ins_end (fun y hy => (rr_mem hy).2), ← rr_snoc (by omega)]
    rw [if_pos e1, if_pos e1, e2]
    obtain ⟨q1, q2⟩ := ih a (c + 1) (by omega) (by omega) (by omega)
    exact ⟨by rw [q1], q2⟩
theorem run_bq (q b : Nat) : runN none ((rr q (q + b)).map (fun x => (⟨x, 1, false⟩ : Lk))) = b ∧ (holdL (runH none ((rr q (q + b)).map (fun x => (⟨x, 1, false⟩ : Lk))))).length = b := by
  cases b with
  | zero => rw [rr_nil (by omega)]; exact ⟨rfl, rfl⟩
  | succ b =>
    rw [rr_cons (by omega), List.map_cons, runN_cons, runH_cons]
    have e1 : besB none false = true := rfl
    have e2 : putH none ⟨(q : Int), 1, false⟩ = (rr q (q + 1), false) := by
      rw [rr_cons (by omega), rr_nil (by omega)]
      simp only [putH]
    rw [if_pos e1, if_pos e1, e2]
    obtain ⟨q1, q2⟩ := run_many (q + (b + 1)) b q (q + 1) (by omega) (by omega) (by omega)
    refine ⟨by rw [q1], ?_⟩
    rw [q2]
    show (rr q (q + (b + 1))).length = _
    rw [rr_len]
    omega
theorem run_bh (b : Nat) : runN none (bh b) = b ∧ (holdL (runH none (bh b))).length = b := run_bq 200 b
/-- Those that hold it go, one by one. -/
def sh3 (n b i : Nat) (A : Ta) : Prop := (i < n ∧ One A (some (rr i n, false)) (some (l100 :: bh b))) ∨ (i = n ∧ One A (some ([100], true)) (if b = 0 then none else some (bh b)))
theorem sh3_step {A : Ta} {n b i : Nat} (h : sh3 n b i A) (hi : i < n) : (A.relL i 1).length = (if i + 1 = n then 1 else 0) ∧ sh3 n b (i + 1) (A.rel i 1) := by
  obtain ⟨_, h1⟩ := h.resolve_right (fun q => by omega)
  have hh : holdB (some (rr i n, false)) (i : Int) = true := by rw [rr_cons hi]; simp [holdB]
  obtain ⟨o1, o2⟩ := one_rel h1 hh
  have hd : delS (i : Int) (rr i n) = rr (i + 1) n := del_head hi
  simp only [Option.getD_some] at o1 o2
  by_cases e : i + 1 = n
  · have hdr : dropH (some (rr i n, false)) (i : Int) = none := by
      simp only [dropH, hd]
      rw [rr_nil (by omega), if_pos rfl]
    rw [hdr] at o1 o2
    have e1 : besB none l100.al = true := rfl
    have e2 : putH none l100 = ([100], true) := rfl
    rw [runN_cons, runH_cons, if_pos e1, if_pos e1, e2, (run_alone _ _).1, (run_alone _ _).2] at o1
    rw [runN_cons, if_pos e1, e2, (run_alone _ _).1] at o2
    refine ⟨by rw [o2, if_pos e]; rfl, .inr ⟨e, ?_⟩⟩
    have e3 : leftR (some (l100 :: bh b)) (0 + 1) = if b = 0 then none else some (bh b) := by
      simp only [leftR, List.length_cons, bh_len, List.drop_succ_cons, List.drop_zero]
      by_cases q : b = 0
      · subst q; rfl
      · rw [if_neg (by omega), if_neg q]
    rw [e3] at o1
    exact o1
  · have hdr : dropH (some (rr i n, false)) (i : Int) = some (rr (i + 1) n, false) := by
      simp only [dropH, hd]
      rw [if_neg (by rw [rr_cons (by omega)]; simp)]
    rw [hdr] at o1 o2
    have e1 : besB (some (rr (i + 1) n, false)) l100.al = false := rfl
    rw [runN_cons, runH_cons, e1] at o1
    rw [runN_cons, e1] at o2
    refine ⟨by rw [o2, if_neg e]; rfl, .inl ⟨by omega, ?_⟩⟩
    have e3 : leftR (some (l100 :: bh b)) 0 = some (l100 :: bh b) := rfl
    have o1' : One (A.rel i 1) (some (rr (i + 1) n, false)) (leftR (some (l100 :: bh b)) 0) := o1
    rw [e3] at o1'
    exact o1'
theorem sh4 {A : Ta} {n b : Nat} (h : sh3 n b n A) : holdL (A.held 1) = [100] ∧ (A.relL 100 1).length = b ∧ (holdL ((A.rel 100 1).held 1)).length = b := by
  obtain ⟨_, h1⟩ := h.resolve_left (fun q => by omega)
  have hh : holdB (some (([100] : List Int), true)) (100 : Int) = true := by simp [holdB]
  obtain ⟨o1, o2⟩ := one_rel h1 hh
  have hdr : dropH (some (([100] : List Int), true)) (100 : Int) = none := by simp [dropH, delS]
  have hg : (if b = 0 then (none : Option (List Lk)) else some (bh b)).getD [] = bh b := by
    by_cases q : b = 0
    · subst q; rfl
    · rw [if_neg q, Option.getD_some]
  rw [hdr, hg] at o1 o2
  refine ⟨by rw [h1.1]; simp only [holdL], ?_, ?_⟩
  · rw [o2, (run_bh b).1, List.length_take, bh_len, Nat.min_self]
  · rw [o1.1]
    exact (run_bh b).2
theorem sh_nh {A : Ta} {n b : Nat} (hA : A.Ok) (h : One A (hI n) (some (l100 :: bh b))) (hn : n ≤ 20) : A.Nh := by
  intro th l hw
  obtain ⟨e1, e2, e3⟩ := one_in hA h hw
  unfold Ta.holds
  rw [e1, h.1]
  refine hI_hold n th ?_
  rcases List.mem_cons.1 (show l ∈ l100 :: bh b from e3) with q | q
  · rw [q] at e2
    have : (100 : Int) = th := e2
    omega
  · have := bh_mem (List.mem_map.2 ⟨l, q, rfl⟩)
    rw [e2] at this
    omega
end Go.Proofs.Ytoediflikoedaaa
namespace Go.Proofs.Ytoediflikoedaaa
open Go Go.Proofs Go.RowKit Go.Shelf
attribute [local go_sem] Oper.semAt_some
/-- The table, by what it holds. -/
def TbO (w W : World) (t N : Nat) (P : Ta → Prop) : Prop := ∃ A, LkO (fun _ => False) w W t A N ∧ P A
theorem one_ne {A : Ta} {h : Option (List Int × Bool)} {L : List Lk} (h1 : One A h (some L)) : A ≠ Ta.none := fun e => by
  have := h1.2.1
  rw [e] at this
  cases this
set_option maxRecDepth 100000 in
set_option maxHeartbeats 8000000 in
theorem shared_any (w : World) (a b : Int) : Calls Try.prog 6 #[.int .i64 a, .int .i64 b] w fun e w' => e = .returned (.bool true) ∧ Below w.heap.size w w' := by
  have HAL := Hid.mk (alive_any w)
  by_cases ha1 : a < 1
  · have hb : decide (a < 1) = true := decide_eq_true ha1
    go_enter Try.func6, Try.ntmps6
    go_wp2_with (go_at_call 9; refine HAL.out.mono ?_; rintro e w1 ⟨rfl, hb1⟩; have HB1 := Hid.mk hb1; clear hb1 HAL)
    go_ret
    exact ⟨rfl, HB1.out⟩
  by_cases ha2 : 20 < a
  · go_enter Try.func6, Try.ntmps6
    go_wp2_with (go_at_call 9; refine HAL.out.mono ?_; rintro e w1 ⟨rfl, hb1⟩; have HB1 := Hid.mk hb1; clear hb1 HAL)
    go_ret
    exact ⟨rfl, HB1.out⟩
  by_cases hb1 : b < 0
  · go_enter Try.func6, Try.ntmps6
    go_wp2_with (go_at_call 9; refine HAL.out.mono ?_; rintro e w1 ⟨rfl, hb1⟩; have HB1 := Hid.mk hb1; clear hb1 HAL)
    go_ret
    exact ⟨rfl, HB1.out⟩
  by_cases hb2 : 20 < b
  · go_enter Try.func6, Try.ntmps6
    go_wp2_with (go_at_call 9; refine HAL.out.mono ?_; rintro e w1 ⟨rfl, hb1⟩; have HB1 := Hid.mk hb1; clear hb1 HAL)
    go_ret
    exact ⟨rfl, HB1.out⟩
  obtain ⟨n, rfl⟩ : ∃ n : Nat, a = n := ⟨a.toNat, by omega⟩
  obtain ⟨k, rfl⟩ : ∃ k : Nat, b = k := ⟨b.toNat, by omega⟩
  have HN : Hid (1 ≤ n ∧ n ≤ 20 ∧ k ≤ 20) := Hid.mk (by omega)
  have HNEW : Hid (∀ W, Below w.heap.size w W → Calls Try.prog 10 #[] W fun e W' => ∃ t, e = .returned (ptV t) ∧ Hid (TbO w W' t 0 (fun A => One A (hI 0) none))) := Hid.mk (fun W hB => (o_new hB).mono (by
    rintro e W' ⟨t, rfl, HQ⟩
    exact ⟨t, rfl, Hid.mk ⟨_, HQ.out, one_none⟩⟩))
  have HA1 : Hid (∀ (i : Nat) W t, i < n → TbO w W t i (fun A => One A (hI i) none) → Calls Try.prog 11 #[ptV t, .agg #[.int .i64 (i : Int), .int .i64 1, .bool false]] W fun e W' => e = .returned (.bool true) ∧ Hid (TbO w W' t (i + 1) (fun A => One A (hI (i + 1)) none))) := Hid.mk (fun i W t hi ⟨A, h1, h2⟩ => by
    have hn := HN.out
    have hb : besB (hI i) false = true := by unfold hI; split <;> rfl
    obtain ⟨q1, q2⟩ := one_yes h1.ok h2 (l := ⟨(i : Int), 1, false⟩) rfl hb (hI_hold i _ (Int.le_refl _))
    rw [hI_put] at q2
    refine (o_ask h1 ⟨(i : Int), 1, false⟩ ⟨wf_of (show -1000 ≤ (i : Int) ∧ (i : Int) ≤ 1000 by omega), wf_of (show -1000 ≤ (1 : Int) ∧ (1 : Int) ≤ 1000 by omega)⟩ (by omega)).mono ?_
    rintro e W' ⟨rfl, HQ⟩
    exact ⟨by rw [q1], Hid.mk ⟨_, HQ.out.1, q2⟩⟩)
  have HA2 : Hid (∀ W t, TbO w W t n (fun A => One A (hI n) none) → Calls Try.prog 11 #[ptV t, .agg #[.int .i64 100, .int .i64 1, .bool true]] W fun e W' => e = .returned (.bool false) ∧ Hid (TbO w W' t (n + 1) (fun A => One A (hI n) (some (l100 :: bh 0))))) := Hid.mk (fun W t ⟨A, h1, h2⟩ => by
    have hn := HN.out
    have hb : besB (hI n) true = false := by unfold hI; rw [if_neg (by omega)]; rfl
    obtain ⟨q1, q2⟩ := one_no h1.ok h2 (l := l100) rfl (.inr hb) (hI_hold n _ (show (n : Int) ≤ 100 by omega)) (by simp)
    refine (o_ask h1 l100 ⟨wf_of (show -1000 ≤ (100 : Int) ∧ (100 : Int) ≤ 1000 by omega), wf_of (show -1000 ≤ (1 : Int) ∧ (1 : Int) ≤ 1000 by omega)⟩ (by omega)).mono ?_
    rintro e W' ⟨rfl, HQ⟩
    exact ⟨by rw [q1], Hid.mk ⟨_, HQ.out.1, q2⟩⟩)
  have HA3 : Hid (∀ (i : Nat) W t, i < k → TbO w W t (n + 1 + i) (fun A => One A (hI n) (some (l100 :: bh i))) → Calls Try.prog 11 #[ptV t, .agg #[.int .i64 (200 + (i : Int)), .int .i64 1, .bool false]] W fun e W' => e = .returned (.bool false) ∧ Hid (TbO w W' t (n + 1 + (i + 1)) (fun A => One A (hI n) (some (l100 :: bh (i + 1)))))) := Hid.mk (fun i W t hi ⟨A, h1, h2⟩ => by
    have hn := HN.out
    obtain ⟨q1, q2⟩ := one_no h1.ok h2 (l := ⟨200 + (i : Int), 1, false⟩) rfl (.inl (by simp)) (hI_hold n _ (show (n : Int) ≤ 200 + (i : Int) by omega)) (by
      intro hm
      rcases List.mem_cons.1 (show (200 + (i : Int)) ∈ l100.th :: (bh i).map Lk.th from hm) with q | q
      · have : (200 + (i : Int)) = 100 := q
        omega
      · have := bh_mem q
        omega)
    have e3 : (some (l100 :: bh i)).getD [] ++ [(⟨200 + (i : Int), 1, false⟩ : Lk)] = l100 :: bh (i + 1) := by
      rw [bh_snoc]
      simp
    rw [e3] at q2
    refine (o_ask h1 ⟨200 + (i : Int), 1, false⟩ ⟨wf_of (show -1000 ≤ 200 + (i : Int) ∧ 200 + (i : Int) ≤ 1000 by omega), wf_of (show -1000 ≤ (1 : Int) ∧ (1 : Int) ≤ 1000 by omega)⟩ (by omega)).mono ?_
    rintro e W' ⟨rfl, HQ⟩
    exact ⟨by rw [q1], Hid.mk ⟨_, HQ.out.1, q2⟩⟩)
  have HHO : Hid (∀ W t, TbO w W t (n + 1 + k) (fun A => One A (hI n) (some (l100 :: bh k))) → Calls Try.prog 18 #[ptV t, .int .i64 1] W fun e W' => ∃ ao c, e = .returned (.slice ao n c) ∧ Hid (TbO w W' t (n + 1 + k) (fun A => One A (hI n) (some (l100 :: bh k))))) := Hid.mk (fun W t ⟨A, h1, h2⟩ => by
    have hn := HN.out
    refine (o_holders h1 1 (wf_of (by omega)) (by omega)).mono ?_
    rintro e W' ⟨ao, c, rfl, HQ⟩
    have e1 : (holdL (A.held 1)).length = n := by
      rw [h2.1]
      unfold hI
      rw [if_neg (by omega)]
      show (rr 0 n).length = n
      rw [rr_len]
      omega
    rw [e1]
    exact ⟨ao, c, rfl, Hid.mk ⟨A, HQ.out.2.1, h2⟩⟩)
  have HSK : Hid (∀ W t, TbO w W t (n + 1 + k) (fun A => One A (hI n) (some (l100 :: bh k))) → Calls Try.prog 23 #[ptV t] W fun e W' => ∃ ao c, e = .returned (.slice ao 0 c) ∧ Hid (TbO w W' t (n + 1 + k) (sh3 n k 0))) := Hid.mk (fun W t ⟨A, h1, h2⟩ => by
    have hn := HN.out
    refine (o_stuck h1 (one_ne h2) (by omega)).mono ?_
    rintro e W' ⟨ao, m, c, rfl, HQ⟩
    obtain ⟨L, A', rfl, a1, a2, a3, a4, a5, a6, a7⟩ := HQ.out
    obtain rfl := one_free h1.ok h2 (sh_nh h1.ok h2 hn.2.1) a1 a2 a4
    refine ⟨ao, c, rfl, Hid.mk ⟨A, a6, .inl ⟨by omega, ?_⟩⟩⟩
    have e1 : hI n = some (rr 0 n, false) := by unfold hI; rw [if_neg (by omega)]
    rw [← e1]
    exact h2)
  have HRL : Hid (∀ (i : Nat) W t, i < n → TbO w W t (n + 1 + k) (sh3 n k i) → Calls Try.prog 14 #[ptV t, .int .i64 (i : Int), .int .i64 1] W fun e W' => ∃ ao c, e = .returned (.slice ao (if i + 1 = n then 1 else 0) c) ∧ Hid (TbO w W' t (n + 1 + k) (sh3 n k (i + 1)))) := Hid.mk (fun i W t hi ⟨A, h1, h2⟩ => by
    have hn := HN.out
    obtain ⟨q1, q2⟩ := sh3_step h2 hi
    refine (o_rel h1 i 1 (wf_of (by omega)) (wf_of (by omega)) (by omega)).mono ?_
    rintro e W' ⟨ao, c, rfl, HQ⟩
    rw [q1] at HQ ⊢
    exact ⟨ao, c, rfl, Hid.mk ⟨_, HQ.out.2.1.drop, q2⟩⟩)
  have HHO2 : Hid (∀ W t, TbO w W t (n + 1 + k) (sh3 n k n) → Calls Try.prog 18 #[ptV t, .int .i64 1] W fun e W' => ∃ ao c, e = .returned (.slice ao 1 c) ∧ Hid (LAt W' ao 1 [100] ∧ TbO w W' t (n + 1 + k) (sh3 n k n))) := Hid.mk (fun W t ⟨A, h1, h2⟩ => by
    have hn := HN.out
    refine (o_holders h1 1 (wf_of (by omega)) (by omega)).mono ?_
    rintro e W' ⟨ao, c, rfl, HQ⟩
    rw [(sh4 h2).1] at HQ ⊢
    exact ⟨ao, c, rfl, Hid.mk ⟨HQ.out.1, A, HQ.out.2.1, h2⟩⟩)
  have HSAME : Hid (∀ W t ao c, LAt W ao 1 [100] ∧ TbO w W t (n + 1 + k) (sh3 n k n) → Calls Try.prog 21 #[.slice ao 1 c, .slice (some ⟨W.heap.size, 0, none⟩) 1 1] (W.alloc (.cells #[.int .i64 100] 3)) fun e W' => e = .returned (.bool true) ∧ Hid (TbO w W' t (n + 1 + k) (sh3 n k n))) := Hid.mk (fun W t ao c ⟨hl, A, h1, h2⟩ => by
    have hB : Below W.heap.size W (W.alloc (.cells #[.int .i64 100] 3)) := (Below.refl _ W).alloc (Nat.le_refl _) _
    refine (sameints_any _ ao _ 1 1 c 1 [100] [100] (hl.next hB) (lat_one W 100) (by omega) (by omega)).mono ?_
    rintro e W' ⟨rfl, hB2⟩
    exact ⟨by simp, Hid.mk ⟨A, (h1.grow hB).grow hB2, h2⟩⟩)
  have HRL2 : Hid (∀ W t, TbO w W t (n + 1 + k) (sh3 n k n) → Calls Try.prog 14 #[ptV t, .int .i64 100, .int .i64 1] W fun e W' => ∃ ao c, e = .returned (.slice ao k c) ∧ Hid (TbO w W' t (n + 1 + k) (fun A => (holdL (A.held 1)).length = k))) := Hid.mk (fun W t ⟨A, h1, h2⟩ => by
    have hn := HN.out
    obtain ⟨_, q1, q2⟩ := sh4 h2
    refine (o_rel h1 100 1 (wf_of (by omega)) (wf_of (by omega)) (by omega)).mono ?_
    rintro e W' ⟨ao, c, rfl, HQ⟩
    rw [q1] at HQ ⊢
    exact ⟨ao, c, rfl, Hid.mk ⟨_, HQ.out.2.1.drop, q2⟩⟩)
  have HHO3 : Hid (∀ W t, TbO w W t (n + 1 + k) (fun A => (holdL (A.held 1)).length = k) → Calls Try.prog 18 #[ptV t, .int .i64 1] W fun e W' => ∃ ao c, e = .returned (.slice ao k c) ∧ Below w.heap.size w W') := Hid.mk (fun W t ⟨A, h1, h2⟩ => by
    have hn := HN.out
    refine (o_holders h1 1 (wf_of (by omega)) (by omega)).mono ?_
    rintro e W' ⟨ao, c, rfl, HQ⟩
    rw [h2]
    exact ⟨ao, c, rfl, HQ.out.2.1.bel⟩)
  go_enter Try.func6, Try.ntmps6
  go_wp2_with (first
    | (go_at_call 9; refine HAL.out.mono ?_; rintro e w1 ⟨rfl, hb1⟩; have HB1 := Hid.mk hb1; clear hb1 HAL)
    | (go_at_call 10; refine (HNEW.out _ HB1.out).mono ?_; rintro e w2 ⟨t, rfl, H2⟩; clear HNEW HB1)
    | go_in)
  go_loopw [7, 8] (fun iv _ wr => ∃ i : Nat, iv = .int .i64 i ∧ Hid (i ≤ n ∧ TbO w wr t i (fun A => One A (hI i) none))) (fun iv _ _ => n - (Go.RowKit.intOf iv).toNat)
  case atStart => exact ⟨0, rfl, Hid.mk ⟨Nat.zero_le _, H2.out⟩⟩
  case round =>
    obtain ⟨i, rfl, HI⟩ := hrel
    clear H2
    by_cases hlt : (i : Int) < (n : Int)
    · have u1 : IntKind.i64.wrap ((i : Int) + 1) = ((i + 1 : Nat) : Int) := by have := HN.out; rw [IntKind.wrap_i64]; omega
      have HLT : Hid (i < n) := Hid.mk (by omega)
      have HC := Hid.mk (HA1.out i wr t HLT.out HI.out.2)
      clear HI
      go_wp2_with (first
        | (go_at_call 11; refine HC.out.mono ?_; rintro e w3 ⟨rfl, H3⟩; clear HC)
        | go_in)
      go_roundw
      case rel => exact ⟨i + 1, rfl, Hid.mk ⟨HLT.out, H3.out⟩⟩
      case measure => (have := HLT.out; simp [Go.RowKit.intOf]; omega)
    · obtain rfl : i = n := by have := HI.out.1; omega
      have HC := Hid.mk (HA2.out wr t HI.out.2)
      clear HI HA1
      go_wp2_with (first
        | (go_at_call 11; refine HC.out.mono ?_; rintro e w3 ⟨rfl, H3⟩; clear HC)
        | go_in)
      go_loopw [10, 11] (fun iv _ wr => ∃ j : Nat, iv = .int .i64 j ∧ Hid (j ≤ k ∧ TbO w wr t (i + 1 + j) (fun A => One A (hI i) (some (l100 :: bh j))))) (fun iv _ _ => k - (Go.RowKit.intOf iv).toNat)
      case atStart => exact ⟨0, rfl, Hid.mk ⟨Nat.zero_le _, H3.out⟩⟩
      case round =>
        obtain ⟨j, rfl, HI⟩ := hrel
        clear H3
        by_cases hlt2 : (j : Int) < (k : Int)
        · have u1 : IntKind.i64.wrap ((j : Int) + 1) = ((j + 1 : Nat) : Int) := by have := HN.out; rw [IntKind.wrap_i64]; omega
          have u2 : IntKind.i64.wrap (200 + (j : Int)) = 200 + (j : Int) := by have := HN.out; rw [IntKind.wrap_i64]; omega
          have HLT : Hid (j < k) := Hid.mk (by omega)
          have HC := Hid.mk (HA3.out j wr t HLT.out HI.out.2)
          clear HI
          go_wp2_with (first
            | (go_at_call 11; refine HC.out.mono ?_; rintro e w4 ⟨rfl, H4⟩; clear HC)
            | go_in)
          go_roundw
          case rel => exact ⟨j + 1, rfl, Hid.mk ⟨HLT.out, H4.out⟩⟩
          case measure => (have := HLT.out; simp [Go.RowKit.intOf]; omega)
        · obtain rfl : j = k := by have := HI.out.1; omega
          have HC := Hid.mk (HHO.out wr t HI.out.2)
          clear HI HA3
          go_wp2_with (first
            | (go_at_call 18; refine HC.out.mono ?_; rintro e w4 ⟨ao4, c4, rfl, H4⟩; have HD := Hid.mk (HSK.out w4 t H4.out); clear HC H4)
            | (go_at_call 23; refine HD.out.mono ?_; rintro e w5 ⟨ao5, c5, rfl, H5⟩; clear HD)
            | go_in)
          go_loopw [12, 13] (fun iv _ wr => ∃ m : Nat, iv = .int .i64 m ∧ Hid (m ≤ i ∧ TbO w wr t (i + 1 + j) (sh3 i j m))) (fun iv _ _ => i - (Go.RowKit.intOf iv).toNat)
          case atStart => exact ⟨0, rfl, Hid.mk ⟨Nat.zero_le _, H5.out⟩⟩
          case round =>
            obtain ⟨m, rfl, HI⟩ := hrel
            clear H5 HSK HHO
            by_cases hlt3 : (m : Int) < (i : Int)
            · have u1 : IntKind.i64.wrap ((m : Int) + 1) = ((m + 1 : Nat) : Int) := by have := HN.out; rw [IntKind.wrap_i64]; omega
              have HLT : Hid (m < i) := Hid.mk (by omega)
              have HC := Hid.mk (HRL.out m wr t HLT.out HI.out.2)
              have u3 : IntKind.i64.wrap ((i : Int) - 1) = (i : Int) - 1 := by have := HN.out; rw [IntKind.wrap_i64]; omega
              have u4 : wrap64 ((i : Int) - 1) = (i : Int) - 1 := by have := HN.out; unfold wrap64; omega
              clear HI
              by_cases he : m + 1 = i
              · rw [if_pos he] at HC
                have e1 : ((m : Int) == (i : Int) - 1) = true := by simp; omega
                have e2 : (m : Int) = (i : Int) - 1 := by omega
                clear he e2
                go_wp2_with (first
                  | (go_at_call 14; refine HC.out.mono ?_; rintro e w6 ⟨ao6, c6, rfl, H6⟩; clear HC)
                  | go_in)
                go_roundw
                case rel => exact ⟨m + 1, rfl, Hid.mk ⟨HLT.out, H6.out⟩⟩
                case measure => (have := HLT.out; simp [Go.RowKit.intOf]; omega)
              · rw [if_neg he] at HC
                have e1 : ((m : Int) == (i : Int) - 1) = false := by simp; omega
                have e2 : ¬ (m : Int) = (i : Int) - 1 := by omega
                clear he
                go_wp2_with (first
                  | (go_at_call 14; refine HC.out.mono ?_; rintro e w6 ⟨ao6, c6, rfl, H6⟩; clear HC)
                  | go_in)
                go_roundw
                case rel => exact ⟨m + 1, rfl, Hid.mk ⟨HLT.out, H6.out⟩⟩
                case measure => (have := HLT.out; simp [Go.RowKit.intOf]; omega)
            · obtain rfl : m = i := by have := HI.out.1; omega
              have HC := Hid.mk (HHO2.out wr t HI.out.2)
              clear HI HRL
              go_wp2_with (first
                | (go_at_call 18; refine HC.out.mono ?_; rintro e w6 ⟨ao6, c6, rfl, H6⟩; have HS := Hid.mk (HSAME.out w6 t ao6 c6 H6.out); clear HC H6 HSAME)
                | (go_at_call 21; refine HS.out.mono ?_; rintro e w7 ⟨rfl, H7⟩; have HR := Hid.mk (HRL2.out w7 t H7.out); clear HS H7 HRL2)
                | (go_at_call 14; refine HR.out.mono ?_; rintro e w8 ⟨ao8, c8, rfl, H8⟩; have HD := Hid.mk (HHO3.out w8 t H8.out); clear HR H8 HHO3)
                | (go_at_call 18; refine HD.out.mono ?_; rintro e w9 ⟨ao9, c9, rfl, hB9⟩; have HB9 := Hid.mk hB9; clear hB9 HD)
                | go_in)
              go_ret
              exact ⟨by simp, HB9.out⟩
end Go.Proofs.Ytoediflikoedaaa
namespace Go.Proofs.Ytoediflikoedaaa
open Go Go.Proofs Go.RowKit Go.Shelf
attribute [local go_sem] Oper.semAt_some
def lk7 (L : List Int) : List Lk := L.map (fun x => ⟨x, 7, true⟩)
/-- p is alone with thing 7, and those of L wait for it. -/
def Al7 (p : Int) (L : List Int) (A : Ta) : Prop := A.held 7 = some ([p], true) ∧ A.rows 7 = (if L = [] then none else some (lk7 L)) ∧ ∀ i, i ≠ 7 → A.rows i = none
theorem al7_get (L : List Int) : ((if L = [] then none else some (lk7 L)) : Option (List Lk)).getD [] = lk7 L := by
  by_cases e : L = []
  · rw [if_pos e, e]; rfl
  · rw [if_neg e, Option.getD_some]
theorem al7_0 : Al7 (-1) [] (Ta.none.ask ⟨-1, 7, true⟩) := by
  refine ⟨?_, ?_, fun i hi => ?_⟩ <;> simp [Ta.ask, Ta.none, Ta.holds, holdB, besB, Ta.grant, putH, updC]
theorem al7_ask {A : Ta} {p x : Int} {L : List Int} (hA : A.Ok) (h : Al7 p L A) (hx : x ∉ L) (hp : x ≠ p) : A.askB ⟨x, 7, true⟩ = false ∧ Al7 p (L ++ [x]) (A.ask ⟨x, 7, true⟩) := by
  have hw : A.waits x = none := by
    cases e : A.waits x with
    | none => rfl
    | some l =>
      exfalso
      obtain ⟨a1, M, a2, a3⟩ := hA.wt x l e
      by_cases q : l.tg = 7
      · rw [q, h.2.1] at a2
        split at a2
        · cases a2
        · cases a2
          obtain ⟨y, hy, e2⟩ := List.mem_map.1 a3
          rw [← e2] at a1
          have a1 : y = x := a1
          exact hx (a1 ▸ hy)
      · rw [h.2.2 _ q] at a2; cases a2
  have e1 : A.holds x 7 = false := by unfold Ta.holds; rw [h.1]; simpa [holdB] using hp
  have e3 : besB (A.held 7) true = false := by rw [h.1]; rfl
  unfold Ta.askB Ta.ask
  simp only [hw, e1, e3, Bool.and_false]
  refine ⟨by first | trivial | rfl, h.1, ?_, fun i hi => ?_⟩
  · show updC A.rows 7 (some ((A.rows 7).getD [] ++ [(⟨x, 7, true⟩ : Lk)])) 7 = _
    rw [updC_same, h.2.1, al7_get, if_neg (by simp)]
    simp [lk7]
  · show updC A.rows 7 _ i = _
    rw [updC_other _ _ hi]
    exact h.2.2 i hi
theorem al7_rel {A : Ta} {p x : Int} {L : List Int} (h : Al7 p (x :: L) A) : A.relL p 7 = [⟨x, 7, true⟩] ∧ Al7 x L (A.rel p 7) := by
  have e1 : A.holds p 7 = true := by unfold Ta.holds; rw [h.1]; simp [holdB]
  obtain ⟨r1, r2, r3, r4, _⟩ := rel_at e1
  have hd : dropH (A.held 7) p = none := by rw [h.1]; simp [dropH, delS]
  have hr : A.rows 7 = some (lk7 (x :: L)) := by rw [h.2.1, if_neg (by simp)]
  have hb : besB none (⟨x, 7, true⟩ : Lk).al = true := rfl
  have hp : putH none (⟨x, 7, true⟩ : Lk) = ([x], true) := rfl
  have hl : lk7 (x :: L) = ⟨x, 7, true⟩ :: lk7 L := rfl
  rw [hd, hr, Option.getD_some, hl] at r2 r3 r4
  rw [runH_cons, if_pos hb, hp, (run_alone _ _).2] at r2
  rw [runN_cons, if_pos hb, hp, (run_alone _ _).1] at r3 r4
  refine ⟨by rw [r4]; rfl, r2, ?_, fun i hi => by rw [(r1 i hi).2]; exact h.2.2 i hi⟩
  rw [r3]
  simp only [leftR, List.length_cons, List.drop_succ_cons, List.drop_zero]
  by_cases q : L = []
  · subst q
    rfl
  · rw [if_neg q, if_neg]
    have : L.length ≠ 0 := fun e => q (List.eq_nil_of_length_eq_zero e)
    simp [lk7]
    omega
theorem al7_end {A : Ta} {p : Int} (h : Al7 p [] A) : A.relL p 7 = [] ∧ (A.rel p 7).held 7 = none := by
  have e1 : A.holds p 7 = true := by unfold Ta.holds; rw [h.1]; simp [holdB]
  obtain ⟨r1, r2, r3, r4, _⟩ := rel_at e1
  have hd : dropH (A.held 7) p = none := by rw [h.1]; simp [dropH, delS]
  have hr : A.rows 7 = none := by rw [h.2.1, if_pos rfl]
  rw [hd, hr] at r2 r4
  exact ⟨by rw [r4]; rfl, by rw [r2]; rfl⟩
theorem al7_holds {A : Ta} {p : Int} {L : List Int} (h : Al7 p L A) : A.holds p 7 = true := by unfold Ta.holds; rw [h.1]; simp [holdB]
/-- The table, and the row of those that asked beside it. -/
def FsO (w W : World) (t N : Nat) (P : Ta → Prop) (u : Value) (xs : List Int) : Prop := ∃ A, LkO (fun k => u.ownBlock = some k) w W t A N ∧ P A ∧ W.ownsRow w.heap.size 3 1 u xs.length (Iy xs)
section
variable {w W : World} {t N : Nat} {P Q : Ta → Prop} {u : Value} {xs : List Int}
theorem fs_ask (h : FsO w W t N P u xs) (l : Lk) (hl : l.wf) (hN : N ≤ 100) (r : Bool) (hPQ : ∀ A, A.Ok → P A → A.askB l = r ∧ Q (A.ask l)) : Calls Try.prog 11 #[ptV t, lkV l] W fun e W' => e = .returned (.bool r) ∧ Hid (FsO w W' t (N + 1) Q u xs) := by
  obtain ⟨A, h1, h2, h3⟩ := h
  refine (o_ask h1 l hl (by omega)).mono ?_
  rintro e W' ⟨rfl, HQ⟩
  obtain ⟨q1, q2⟩ := hPQ A h1.ok h2
  exact ⟨by rw [q1], Hid.mk ⟨_, HQ.out.1, q2, owns_at h3 (fun k hk => HQ.out.2 k hk)⟩⟩
theorem fs_add (h : FsO w W t N P u xs) (x : Int) (hn : xs.length ≤ 1000) : ∃ v' W', (Builtin.append_ #[39, 39] 39 #[u, .slice (some ⟨W.heap.size, 0, none⟩) 1 1]).run Try.prog (W.alloc (.cells #[.int .i64 x] 3)) = .ok v' W' ∧ (∃ ao c, v' = .slice ao (xs.length + 1) c) ∧ Hid (FsO w W' t N P v' (xs ++ [x])) := by
  obtain ⟨A, h1, h2, h3⟩ := h
  obtain ⟨v', W', p1, p2, p3, p4, g', p5⟩ := appendI W w.heap.size u xs x h3 h1.bel.size (by omega)
  refine ⟨v', W', p1, ?_, Hid.mk ⟨A, h1.side p3 (fun k hk => ⟨hk, ?_⟩) (fun k hk => ⟨own_lt p2 hk, ?_⟩), h2, p2⟩⟩
  · rcases p2.2 with ⟨_, h0⟩ | ⟨g9, c9, _, e, _⟩
    · simp at h0
    · exact ⟨some ⟨g9, 0, none⟩, c9, by rw [e]; simp⟩
  · rcases h3.2 with ⟨e, _⟩ | ⟨g9, _, _, e, hb, _⟩
    · rw [e] at hk; cases hk
    · rw [e] at hk
      have : g9 = k := Option.some.inj hk
      omega
  · rcases p4 with q | q
    · exact .inl (q ▸ hk)
    · rw [q] at hk
      exact .inr (by have := Option.some.inj hk; omega)
theorem fs_rel (h : FsO w W t N P u xs) (p : Int) (hp : (Lit.int .i64 p).wf = true) (hN : N ≤ 100) (G : List Lk) (hPQ : ∀ A, A.Ok → P A → A.relL p 7 = G ∧ Q (A.rel p 7)) : Calls Try.prog 14 #[ptV t, .int .i64 p, .int .i64 7] W fun e W' => ∃ ao c, e = .returned (.slice ao G.length c) ∧ Hid (SlOk W' (.slice ao G.length c) G ∧ FsO w W' t N Q u xs) := by
  obtain ⟨A, h1, h2, h3⟩ := h
  obtain ⟨q1, q2⟩ := hPQ A h1.ok h2
  refine (o_rel h1 p 7 hp (wf_of (by omega)) (by omega)).mono ?_
  rintro e W' ⟨ao, c, rfl, HQ⟩
  rw [q1] at HQ ⊢
  obtain ⟨a1, a2, a3⟩ := HQ.out
  exact ⟨ao, c, rfl, Hid.mk ⟨a1, _, a2.side (Only.refl (fun _ => False) W') (fun _ q => q.elim) (fun k hk => ⟨a2.lt k (.inl hk), .inl (.inl hk)⟩), q2, owns_at h3 (fun k hk => a3 k hk)⟩⟩
theorem fs_holds (h : FsO w W t N P u xs) (p : Int) (hp : (Lit.int .i64 p).wf = true) (r : Bool) (hP : ∀ A, P A → A.holds p 7 = r) : Calls Try.prog 19 #[ptV t, .int .i64 p, .int .i64 7] W fun e W' => e = .returned (.bool r) ∧ Hid (FsO w W' t N P u xs ∧ Below W.heap.size W W') := by
  obtain ⟨A, h1, h2, h3⟩ := h
  refine (o_holds h1 p 7 hp (wf_of (by omega))).mono ?_
  rintro e W' ⟨rfl, HQ⟩
  exact ⟨by rw [hP A h2], Hid.mk ⟨⟨A, HQ.out.1, h2, owns_at h3 (fun k hk => HQ.out.2.block k (own_lt h3 hk))⟩, HQ.out.2⟩⟩
theorem fs_grow {W' : World} (h : FsO w W t N P u xs) (hB : Below W.heap.size W W') : FsO w W' t N P u xs := by
  obtain ⟨A, h1, h2, h3⟩ := h
  exact ⟨A, h1.grow hB, h2, owns_at h3 (fun k hk => hB.block k (own_lt h3 hk))⟩
theorem fs_row (h : FsO w W t N P u xs) : Below w.heap.size w W ∧ ∃ ao c, u = .slice ao xs.length c ∧ LAt W ao xs.length xs := by
  obtain ⟨A, h1, h2, h3⟩ := h
  exact ⟨h1.bel, owns_lat h3⟩
end
end Go.Proofs.Ytoediflikoedaaa
namespace Go.Proofs.Ytoediflikoedaaa
open Go Go.Proofs Go.RowKit Go.Shelf
attribute [local go_sem] Oper.semAt_some
theorem takeS {xs : List Int} {i : Nat} (h : i < xs.length) : xs.take (i + 1) = xs.take i ++ [xs.getD i 0] := by
  rw [List.take_add_one, List.getElem?_eq_getElem h]
  simp [List.getD, List.getElem?_eq_getElem h]
theorem drop_get {xs : List Int} {i : Nat} (h : i < xs.length) : xs.drop i = xs.getD i 0 :: xs.drop (i + 1) := by
  rw [List.drop_eq_getElem_cons h]
  simp [List.getD, List.getElem?_eq_getElem h]
theorem wf_get {xs : List Int} (h : ∀ x ∈ xs, (Lit.int .i64 x).wf = true) {i : Nat} (hi : i < xs.length) : (Lit.int .i64 (xs.getD i 0)).wf = true := by
  refine h _ ?_
  rw [List.getD, List.getElem?_eq_getElem hi]
  exact List.getElem_mem hi
set_option maxRecDepth 100000 in
set_option maxHeartbeats 8000000 in
theorem first_law (w : World) (a : Option Addr) (n c : Nat) (xs : List Int) (hl : LAt w a n xs) (hw : ∀ x ∈ xs, (Lit.int .i64 x).wf = true) (hn : n ≤ 9223372036854775807) : Calls Try.prog 8 #[.slice a n c] w fun e w' => e = .returned (.bool true) ∧ Below w.heap.size w w' := by
  have HAL := Hid.mk (alive_any w)
  by_cases h40 : (40 : Int) < (n : Int)
  · clear hl hw
    go_enter Try.func8, Try.ntmps8
    go_wp2_with (go_at_call 9; refine HAL.out.mono ?_; rintro e w1 ⟨rfl, hb1⟩; have HB1 := Hid.mk hb1; clear hb1 HAL)
    go_ret
    exact ⟨rfl, HB1.out⟩
  have HX : Hid (xs.length = n ∧ n ≤ 40 ∧ ∀ x ∈ xs, (Lit.int .i64 x).wf = true) := Hid.mk ⟨hl.1, by omega, hw⟩
  have HL : Hid (∀ W, Below w.heap.size w W → LAt W a n xs) := Hid.mk (fun W hB => hl.next hB)
  have HNEW : Hid (∀ W, Below w.heap.size w W → Calls Try.prog 10 #[] W fun e W' => ∃ t, e = .returned (ptV t) ∧ Hid (FsO w W' t 0 (fun A => A = Ta.none) (.slice none 0 0) [])) := Hid.mk (fun W hB => (o_new hB).mono (by
    rintro e W' ⟨t, rfl, HQ⟩
    exact ⟨t, rfl, Hid.mk ⟨_, HQ.out.side (Only.refl (fun _ => False) W') (fun _ q => q.elim) (fun k hk => by cases hk), rfl, World.ownsRow_nil _ _ _ _⟩⟩))
  have HA0 : Hid (∀ W t, FsO w W t 0 (fun A => A = Ta.none) (.slice none 0 0) [] → Calls Try.prog 11 #[ptV t, .agg #[.int .i64 (-1), .int .i64 7, .bool true]] W fun e W' => e = .returned (.bool true) ∧ Hid (FsO w W' t 1 (Al7 (-1) []) (.slice none 0 0) [])) := Hid.mk (fun W t h => fs_ask h ⟨-1, 7, true⟩ ⟨wf_of (show -1000 ≤ (-1 : Int) ∧ (-1 : Int) ≤ 1000 by omega), wf_of (show -1000 ≤ (7 : Int) ∧ (7 : Int) ≤ 1000 by omega)⟩ (by omega) true (fun A _ hA => by subst hA; exact ⟨by simp [Ta.askB, Ta.none, Ta.holds, holdB, besB], al7_0⟩))
  have HA1 : Hid (∀ (i : Nat) W t u, i < n → xs.getD i 0 ∉ xs.take i → 0 ≤ xs.getD i 0 → FsO w W t (i + 1) (Al7 (-1) (xs.take i)) u (xs.take i) → Calls Try.prog 11 #[ptV t, .agg #[.int .i64 (xs.getD i 0), .int .i64 7, .bool true]] W fun e W' => e = .returned (.bool false) ∧ Hid (FsO w W' t (i + 1 + 1) (Al7 (-1) (xs.take (i + 1))) u (xs.take i))) := Hid.mk (fun i W t u hi h1 h2 h => by
    have hx := HX.out
    refine fs_ask h ⟨xs.getD i 0, 7, true⟩ ⟨wf_get hx.2.2 (by omega), wf_of (show -1000 ≤ (7 : Int) ∧ (7 : Int) ≤ 1000 by omega)⟩ (by omega) false (fun A hA hP => ?_)
    rw [takeS (by omega)]
    exact al7_ask hA hP h1 (by omega))
  have HAD : Hid (∀ (i : Nat) W t ao c, i < n → FsO w W t (i + 1 + 1) (Al7 (-1) (xs.take (i + 1))) (.slice ao i c) (xs.take i) → ∃ v' W', (Builtin.append_ #[39, 39] 39 #[.slice ao i c, .slice (some ⟨W.heap.size, 0, none⟩) 1 1]).run Try.prog (W.alloc (.cells #[.int .i64 (xs.getD i 0)] 3)) = .ok v' W' ∧ (∃ ao c, v' = .slice ao (i + 1) c) ∧ Hid (FsO w W' t (i + 1 + 1) (Al7 (-1) (xs.take (i + 1))) v' (xs.take (i + 1)))) := Hid.mk (fun i W t ao c hi h => by
    have hx := HX.out
    have hl : (xs.take i).length = i := by rw [List.length_take]; omega
    obtain ⟨v', W', p1, p2, p3⟩ := fs_add h (xs.getD i 0) (by omega)
    rw [hl] at p2
    refine ⟨v', W', p1, p2, Hid.mk ?_⟩
    have := p3.out
    rwa [← takeS (by omega)] at this)
  have HBL : Hid (∀ W t N P u ys, FsO w W t N P u ys → Below w.heap.size w W) := Hid.mk (fun W t N P u ys h => (fs_row h).1)
  clear hl hw hn
  go_enter Try.func8, Try.ntmps8
  go_wp2_with (first
    | (go_at_call 9; refine HAL.out.mono ?_; rintro e w1 ⟨rfl, hb1⟩; have HB1 := Hid.mk hb1; clear hb1 HAL)
    | (go_at_call 10; refine (HNEW.out _ HB1.out).mono ?_; rintro e w2 ⟨t, rfl, H2⟩; clear HNEW HB1)
    | (go_at_call 11; refine (HA0.out _ _ H2.out).mono ?_; rintro e w3 ⟨rfl, H3⟩; clear H2 HA0)
    | go_in)
  go_loopw [5, 6, 7, 8] (fun u iv _ _ wr => ∃ i : Nat, iv = .int .i64 i ∧ (∃ ao c, u = .slice ao i c) ∧ Hid (i ≤ n ∧ FsO w wr t (i + 1) (Al7 (-1) (xs.take i)) u (xs.take i) ∧ ∀ x ∈ xs.take i, 0 ≤ x)) (fun _ iv _ _ _ => n - (Go.RowKit.intOf iv).toNat)
  case atStart => exact ⟨0, rfl, ⟨none, 0, rfl⟩, Hid.mk ⟨Nat.zero_le _, by simpa using H3.out, by simp⟩⟩
  case round =>
    obtain ⟨i, rfl, ⟨ao, co, rfl⟩, HI⟩ := hrel
    clear H3
    by_cases hlt : (i : Int) < (n : Int)
    · have u1 : IntKind.i64.wrap ((i : Int) + 1) = ((i + 1 : Nat) : Int) := by have := HX.out; rw [IntKind.wrap_i64]; omega
      have HLT : Hid (i < n) := Hid.mk (by omega)
      go_wp2
      go_loopw [7] (fun kv wr => ∃ k : Nat, kv = .int .i64 k ∧ Hid (k ≤ i ∧ FsO w wr t (i + 1) (Al7 (-1) (xs.take i)) (.slice ao i co) (xs.take i) ∧ ∀ j, j < k → xs.getD j 0 ≠ xs.getD i 0)) (fun kv _ => i - (Go.RowKit.intOf kv).toNat)
      case atStart => exact ⟨0, rfl, Hid.mk ⟨Nat.zero_le _, HI.out.2.1, fun j hj => by omega⟩⟩
      case round =>
        obtain ⟨k, rfl, HK⟩ := hrel
        have HPOS : Hid (∀ x ∈ xs.take i, 0 ≤ x) := Hid.mk HI.out.2.2
        clear HI
        by_cases hlt2 : (k : Int) < (i : Int)
        · have u2 : IntKind.i64.wrap ((k : Int) + 1) = ((k + 1 : Nat) : Int) := by have := HX.out; rw [IntKind.wrap_i64]; omega
          have HLT2 : Hid (k < i) := Hid.mk (by omega)
          have hLA := HL.out wr (HBL.out _ _ _ _ _ _ HK.out.2.1)
          obtain ⟨a', rfl, c1⟩ := hLA.at k (by have := HLT2.out; have := HLT.out; omega)
          obtain ⟨a2, ea, c2⟩ := hLA.at i HLT.out
          cases ea
          have g1 : (k : Int) < (n : Int) := by omega
          clear hLA
          by_cases he : xs.getD k 0 = xs.getD i 0
          · have HB := Hid.mk (HBL.out _ _ _ _ _ _ HK.out.2.1)
            rw [he] at c1
            generalize xs.getD i 0 = y at *
            clear he HK
            go_wp2
            go_quiet (fail)
            go_wp2
            go_ret
            exact ⟨rfl, HB.out.trans (below_drewN' _ _ _ HB.out.size)⟩
          · have he2 : (xs.getD k 0 == xs.getD i 0) = false := by simpa using he
            have HF : Hid (∀ m, k + 1 ≤ i ∧ FsO w (wr.drewN m) t (i + 1) (Al7 (-1) (xs.take i)) (.slice ao i co) (xs.take i) ∧ ∀ j, j < k + 1 → xs.getD j 0 ≠ xs.getD i 0) := Hid.mk (fun m => ⟨HLT2.out, fs_grow HK.out.2.1 (below_drewN' _ _ _ (Nat.le_refl _)), fun j hj => by
              rcases Nat.lt_or_ge j k with q | q
              · exact HK.out.2.2 j q
              · obtain rfl : j = k := by omega
                exact he⟩)
            generalize xs.getD i 0 = y at *
            generalize xs.getD k 0 = z at *
            clear he HK
            go_wp2
            go_quiet (fail)
            go_wp2
            go_roundw
            case rel => exact ⟨k + 1, rfl, HF.out _⟩
            case measure => (have := HLT2.out; simp [Go.RowKit.intOf]; omega)
        · obtain rfl : k = i := by have := HK.out.1; omega
          have hLA := HL.out wr (HBL.out _ _ _ _ _ _ HK.out.2.1)
          obtain ⟨a', rfl, c1⟩ := hLA.at k HLT.out
          clear hLA
          by_cases hneg : xs.getD k 0 < 0
          · have HB := Hid.mk (HBL.out _ _ _ _ _ _ HK.out.2.1)
            generalize xs.getD k 0 = y at *
            clear HK
            go_wp2
            go_ret
            exact ⟨rfl, HB.out⟩
          · have hni : xs.getD k 0 ∉ xs.take k := fun hm => by
              obtain ⟨j, hj, e⟩ := List.getElem_of_mem hm
              rw [List.length_take] at hj
              refine HK.out.2.2 j (by omega) ?_
              rw [← e, List.getElem_take, List.getD, List.getElem?_eq_getElem (by omega)]
              rfl
            have HC := Hid.mk (HA1.out k wr t _ HLT.out hni (by omega) HK.out.2.1)
            have HNX : Hid (∀ x ∈ xs.take (k + 1), 0 ≤ x) := Hid.mk (fun x hx => by
              rw [takeS (by have := HX.out; have := HLT.out; omega)] at hx
              rcases List.mem_append.1 hx with q | q
              · exact HPOS.out x q
              · rw [List.mem_singleton.1 q]; omega)
            have HLB : Hid (∀ W, Below w.heap.size w W → W.cell? (a'.add k) = some (.int .i64 (xs.getD k 0))) := Hid.mk (fun W hB => by
              obtain ⟨a2, ea, c2⟩ := (HL.out W hB).at k HLT.out
              cases ea
              exact c2)
            clear HK hni
            go_wp2_with (first
              | (go_at_call 11; refine HC.out.mono ?_; rintro e w4 ⟨rfl, H4⟩; have c4 := HLB.out w4 (HBL.out _ _ _ _ _ _ H4.out); obtain ⟨v5, W5, p5, ⟨ao5, c5, rfl⟩, H5⟩ := HAD.out k w4 t ao co HLT.out H4.out; have HAP := Hid.mk p5; clear p5 H4 HC)
              | (at_builtin; refine wpList_append_known rfl _ _ _ rfl _ _ _ _ rfl rfl HAP.out ?_; simp only [Act.put, List.setIfInBounds_toArray, List.set_cons_zero, List.set_cons_succ])
              | go_in)
            go_roundw
            case rel => exact ⟨k + 1, rfl, ⟨_, _, rfl⟩, Hid.mk ⟨HLT.out, H5.out, HNX.out⟩⟩
            case measure => (have := HLT.out; simp [Go.RowKit.intOf]; omega)
    · obtain rfl : i = n := by have := HI.out.1; omega
      have etk : xs.take i = xs := List.take_of_length_le (by have := HX.out; omega)
      have H0 : Hid (FsO w wr t (i + 1) (Al7 (-1) (xs.drop 0)) (.slice ao i co) xs) := Hid.mk (by have := HI.out.2.1; rw [etk] at this; exact this)
      have HR1 : Hid (∀ (j : Nat) (p : Int) W, j < i → (Lit.int .i64 p).wf = true → FsO w W t (i + 1) (Al7 p (xs.drop j)) (.slice ao i co) xs → Calls Try.prog 14 #[ptV t, .int .i64 p, .int .i64 7] W fun e W' => ∃ ag cg, e = .returned (.slice ag 1 cg) ∧ Hid (SlOk W' (.slice ag 1 cg) [⟨xs.getD j 0, 7, true⟩] ∧ FsO w W' t (i + 1) (Al7 (xs.getD j 0) (xs.drop (j + 1))) (.slice ao i co) xs)) := Hid.mk (fun j p W hj hp h => fs_rel h p hp (by have := HX.out; omega) [⟨xs.getD j 0, 7, true⟩] (fun A _ hP => by
        rw [drop_get (by have := HX.out; omega)] at hP
        exact al7_rel hP))
      have HH1 : Hid (∀ (j : Nat) W, j < i → FsO w W t (i + 1) (Al7 (xs.getD j 0) (xs.drop (j + 1))) (.slice ao i co) xs → Calls Try.prog 19 #[ptV t, .int .i64 (xs.getD j 0), .int .i64 7] W fun e W' => e = .returned (.bool true) ∧ Hid (FsO w W' t (i + 1) (Al7 (xs.getD j 0) (xs.drop (j + 1))) (.slice ao i co) xs ∧ Below W.heap.size W W')) := Hid.mk (fun j W hj h => fs_holds h (xs.getD j 0) (wf_get HX.out.2.2 (by have := HX.out; omega)) true (fun A hP => al7_holds hP))
      have HR2 : Hid (∀ (p : Int) W, (Lit.int .i64 p).wf = true → FsO w W t (i + 1) (Al7 p []) (.slice ao i co) xs → Calls Try.prog 14 #[ptV t, .int .i64 p, .int .i64 7] W fun e W' => ∃ ag cg, e = .returned (.slice ag 0 cg) ∧ Hid (FsO w W' t (i + 1) (fun A => A.held 7 = none) (.slice ao i co) xs)) := Hid.mk (fun p W hp h => (fs_rel h p hp (by have := HX.out; omega) [] (fun A _ hP => al7_end hP)).mono (by
        rintro e W' ⟨ag, cg, rfl, HQ⟩
        exact ⟨ag, cg, rfl, Hid.mk HQ.out.2⟩))
      have HH2 : Hid (∀ W, FsO w W t (i + 1) (fun A => A.held 7 = none) (.slice ao i co) xs → Calls Try.prog 18 #[ptV t, .int .i64 7] W fun e W' => ∃ ag cg, e = .returned (.slice ag 0 cg) ∧ Below w.heap.size w W') := Hid.mk (fun W ⟨A, h1, h2, h3⟩ => (o_holders h1 7 (wf_of (by omega)) (by have := HX.out; omega)).mono (by
        rintro e W' ⟨ag, cg, rfl, HQ⟩
        rw [h2] at HQ ⊢
        exact ⟨ag, cg, rfl, HQ.out.2.1.bel⟩))
      clear HI HA1 HAD etk HL
      go_wp2
      go_loopw [9, 10, 11] (fun pv jv _ wr => ∃ (j : Nat) (p : Int), jv = .int .i64 j ∧ pv = .int .i64 p ∧ Hid (j ≤ i ∧ (Lit.int .i64 p).wf = true ∧ FsO w wr t (i + 1) (Al7 p (xs.drop j)) (.slice ao i co) xs)) (fun _ jv _ _ => i - (Go.RowKit.intOf jv).toNat)
      case atStart => exact ⟨0, -1, rfl, rfl, Hid.mk ⟨Nat.zero_le _, wf_of (by omega), H0.out⟩⟩
      case round =>
        obtain ⟨j, p, rfl, rfl, HJ⟩ := hrel
        clear H0
        by_cases hlt3 : (j : Int) < (i : Int)
        · have u1 : IntKind.i64.wrap ((j : Int) + 1) = ((j + 1 : Nat) : Int) := by have := HX.out; rw [IntKind.wrap_i64]; omega
          have HLT : Hid (j < i) := Hid.mk (by omega)
          have HC := Hid.mk (HR1.out j p wr HLT.out HJ.out.2.1 HJ.out.2.2)
          have HWX : Hid ((Lit.int .i64 (xs.getD j 0)).wf = true) := Hid.mk (wf_get HX.out.2.2 (by have := HX.out; have := HLT.out; omega))
          have HROW : Hid (∀ W, FsO w W t (i + 1) (Al7 (xs.getD j 0) (xs.drop (j + 1))) (.slice ao i co) xs → ∃ aa, ao = some aa ∧ W.cell? (aa.add j) = some (.int .i64 (xs.getD j 0))) := Hid.mk (fun W h => by
            obtain ⟨_, ao', c', e, hl⟩ := fs_row h
            have hx := HX.out
            cases e
            rw [hx.1] at hl
            exact hl.at j HLT.out)
          clear HJ
          go_wp2_with (first
            | (go_at_call 14; refine HC.out.mono ?_; rintro e w4 ⟨ag, cg, rfl, H4⟩; clear HC)
            | go_in)
          obtain ⟨gg, off, rfl, hggl, hgc⟩ : ∃ gg off, ag = some ⟨gg, off, none⟩ ∧ gg < w4.heap.size ∧ w4.drew.cell? ⟨gg, off, none⟩ = some (.int .i64 (xs.getD j 0)) := by
            rcases H4.out.1 with ⟨_, e⟩ | ⟨gg, hgg, hR⟩
            · cases e
            · obtain ⟨off, cap, e1, e2, e3, e4⟩ := hR.cells
              cases e1
              obtain ⟨q1, _, _⟩ := e4 0 _ rfl
              exact ⟨gg, off, rfl, e2, by simpa using q1⟩
          obtain ⟨aa, rfl, hoc⟩ := HROW.out w4.drew (fs_grow H4.out.2 (drew_below w4))
          have HHC := Hid.mk (HH1.out j w4.drew HLT.out (fs_grow H4.out.2 (drew_below w4)))
          have e0 : (⟨gg, off, none⟩ : Addr).add 0 = ⟨gg, off, none⟩ := by rw [add_at]; simp
          have g2 : (j : Int) < (i : Int) := hlt3
          obtain ⟨x, hx⟩ : ∃ x, x = xs.getD j 0 := ⟨_, rfl⟩
          rw [← hx] at hgc hoc HHC HWX HROW
          clear H4 HR1 HH1 hx
          have hH : (fun W : World => W.cell? ⟨gg, off, none⟩ = some (.int .i64 x) ∧ W.cell? (aa.add j) = some (.int .i64 x) ∧ True) w4.drew := ⟨hgc, hoc, trivial⟩
          have HS5 : Hid (∀ w5 : World, Below w4.drew.heap.size w4.drew w5 → w5.cell? (aa.add j) = some (.int .i64 x) → w5.cell? ⟨gg, off, none⟩ = some (.int .i64 x) ∧ w5.cell? (aa.add j) = some (.int .i64 x) ∧ True) := Hid.mk (fun w5 hB q => ⟨(World.cell?_of_block (w := w4.drew) (hB.block gg hggl)).trans hgc, q, trivial⟩)
          refine wp_region_held_drew (S := fun W : World => W.cell? ⟨gg, off, none⟩ = some (.int .i64 x) ∧ W.cell? (aa.add j) = some (.int .i64 x) ∧ True) (by kernel_rfl) hH (fun hH => ?_)
          change wpAnyH Try.prog Region.Mode.any _ _ _ 23 _ _ _
          refine takeH 0 74 (.slice (some ⟨gg, off, none⟩) 1 cg) rfl (by kernel_rfl) (by kernel_rfl) (by kernel_rfl) (by kernel_rfl) (fun _ _ _ h => h) (by kernel_rfl) (fun w hw => by kernel_rfl) hH ?_
          simp only [List.setIfInBounds_toArray, List.set_cons_zero, List.set_cons_succ]
          refine takeH 1 75 (.int .i64 1) rfl (by kernel_rfl) (by kernel_rfl) (by kernel_rfl) (by kernel_rfl) (fun _ _ _ h => h) (by kernel_rfl) (fun w hw => by go_simp) hH ?_
          simp only [List.setIfInBounds_toArray, List.set_cons_zero, List.set_cons_succ]
          refine takeH 2 76 (.bool false) rfl (by kernel_rfl) (by kernel_rfl) (by kernel_rfl) (by kernel_rfl) (fun _ _ _ h => h) (by kernel_rfl) (fun w hw => by go_simp) hH ?_
          simp only [List.setIfInBounds_toArray, List.set_cons_zero, List.set_cons_succ]
          refine takeH 3 77 (.bool false) rfl (by kernel_rfl) (by kernel_rfl) (by kernel_rfl) (by kernel_rfl) (fun _ _ _ h => h) (by kernel_rfl) (fun w hw => by kernel_rfl) hH ?_
          simp only [List.setIfInBounds_toArray, List.set_cons_zero, List.set_cons_succ]
          refine takeH 4 78 (.slice (some ⟨gg, off, none⟩) 1 cg) rfl (by kernel_rfl) (by kernel_rfl) (by kernel_rfl) (by kernel_rfl) (fun _ _ _ h => h) (by kernel_rfl) (fun w hw => by kernel_rfl) hH ?_
          simp only [List.setIfInBounds_toArray, List.set_cons_zero, List.set_cons_succ]
          refine takeH 5 79 (.pointer (some ⟨gg, off, none⟩)) rfl (by kernel_rfl) (by kernel_rfl) (by kernel_rfl) (by kernel_rfl) (fun _ _ _ h => h) (by kernel_rfl) (fun w hw => by go_simp) hH ?_
          simp only [List.setIfInBounds_toArray, List.set_cons_zero, List.set_cons_succ]
          refine takeH 6 80 (.pointer (some ⟨gg, off, none⟩)) rfl (by kernel_rfl) (by kernel_rfl) (by kernel_rfl) (by kernel_rfl) (fun _ _ _ h => h) (by kernel_rfl) (fun w hw => by go_simp) hH ?_
          simp only [List.setIfInBounds_toArray, List.set_cons_zero, List.set_cons_succ]
          refine takeH 7 81 (.int .i64 x) rfl (by kernel_rfl) (by kernel_rfl) (by kernel_rfl) (by kernel_rfl) (fun _ _ _ h => h) (by kernel_rfl) (fun w hw => by (try dsimp only at hw); obtain ⟨hw1, hw2, hw3⟩ := hw; go_simp) hH ?_
          simp only [List.setIfInBounds_toArray, List.set_cons_zero, List.set_cons_succ]
          refine takeH 8 82 (.slice (some aa) i co) rfl (by kernel_rfl) (by kernel_rfl) (by kernel_rfl) (by kernel_rfl) (fun _ _ _ h => h) (by kernel_rfl) (fun w hw => by kernel_rfl) hH ?_
          simp only [List.setIfInBounds_toArray, List.set_cons_zero, List.set_cons_succ]
          refine takeH 9 83 (.int .i64 j) rfl (by kernel_rfl) (by kernel_rfl) (by kernel_rfl) (by kernel_rfl) (fun _ _ _ h => h) (by kernel_rfl) (fun w hw => by kernel_rfl) hH ?_
          simp only [List.setIfInBounds_toArray, List.set_cons_zero, List.set_cons_succ]
          refine takeH 10 84 (.pointer (some (aa.add j))) rfl (by kernel_rfl) (by kernel_rfl) (by kernel_rfl) (by kernel_rfl) (fun _ _ _ h => h) (by kernel_rfl) (fun w hw => by go_simp) hH ?_
          simp only [List.setIfInBounds_toArray, List.set_cons_zero, List.set_cons_succ]
          refine takeH 11 85 (.int .i64 x) rfl (by kernel_rfl) (by kernel_rfl) (by kernel_rfl) (by kernel_rfl) (fun _ _ _ h => h) (by kernel_rfl) (fun w hw => by (try dsimp only at hw); obtain ⟨hw1, hw2, hw3⟩ := hw; go_simp) hH ?_
          simp only [List.setIfInBounds_toArray, List.set_cons_zero, List.set_cons_succ]
          refine takeH 12 86 (.bool false) rfl (by kernel_rfl) (by kernel_rfl) (by kernel_rfl) (by kernel_rfl) (fun _ _ _ h => h) (by kernel_rfl) (fun w hw => by go_simp) hH ?_
          simp only [List.setIfInBounds_toArray, List.set_cons_zero, List.set_cons_succ]
          refine takeH 13 87 (.bool false) rfl (by kernel_rfl) (by kernel_rfl) (by kernel_rfl) (by kernel_rfl) (fun _ _ _ h => h) (by kernel_rfl) (fun w hw => by kernel_rfl) hH ?_
          simp only [List.setIfInBounds_toArray, List.set_cons_zero, List.set_cons_succ]
          refine takeH 14 88 (.bool false) rfl (by kernel_rfl) (by kernel_rfl) (by kernel_rfl) (by kernel_rfl) (fun _ _ _ h => h) (by kernel_rfl) (fun w hw => by kernel_rfl) hH ?_
          simp only [List.setIfInBounds_toArray, List.set_cons_zero, List.set_cons_succ]
          refine takeH 15 89 (ptV t) rfl (by kernel_rfl) (by kernel_rfl) (by kernel_rfl) (by kernel_rfl) (fun _ _ _ h => h) (by kernel_rfl) (fun w hw => by kernel_rfl) hH ?_
          simp only [List.setIfInBounds_toArray, List.set_cons_zero, List.set_cons_succ]
          refine takeH 16 90 (.slice (some aa) i co) rfl (by kernel_rfl) (by kernel_rfl) (by kernel_rfl) (by kernel_rfl) (fun _ _ _ h => h) (by kernel_rfl) (fun w hw => by kernel_rfl) hH ?_
          simp only [List.setIfInBounds_toArray, List.set_cons_zero, List.set_cons_succ]
          refine takeH 17 91 (.int .i64 j) rfl (by kernel_rfl) (by kernel_rfl) (by kernel_rfl) (by kernel_rfl) (fun _ _ _ h => h) (by kernel_rfl) (fun w hw => by kernel_rfl) hH ?_
          simp only [List.setIfInBounds_toArray, List.set_cons_zero, List.set_cons_succ]
          refine takeH 18 92 (.pointer (some (aa.add j))) rfl (by kernel_rfl) (by kernel_rfl) (by kernel_rfl) (by kernel_rfl) (fun _ _ _ h => h) (by kernel_rfl) (fun w hw => by go_simp) hH ?_
          simp only [List.setIfInBounds_toArray, List.set_cons_zero, List.set_cons_succ]
          refine takeH 19 93 (.int .i64 x) rfl (by kernel_rfl) (by kernel_rfl) (by kernel_rfl) (by kernel_rfl) (fun _ _ _ h => h) (by kernel_rfl) (fun w hw => by (try dsimp only at hw); obtain ⟨hw1, hw2, hw3⟩ := hw; go_simp) hH ?_
          simp only [List.setIfInBounds_toArray, List.set_cons_zero, List.set_cons_succ]
          refine stepH_call 20 94 rfl (by kernel_rfl) (by kernel_rfl) (by kernel_rfl) 19 #[.tmp 89, .tmp 93, .const (.int .i64 7)] #[24, 3, 3] (by kernel_rfl) (enters_of Try.func19 (by kernel_rfl) rfl) #[ptV t, .int .i64 x, .int .i64 7] (by kernel_rfl) HHC.out ?_
          rintro e w5 ⟨rfl, H5⟩
          obtain ⟨aa5, ea5, hoc5⟩ := HROW.out w5 H5.out.1
          cases ea5
          have hS5 := HS5.out w5 H5.out.2 hoc5
          refine ⟨_, rfl, hS5, ?_⟩
          simp only [List.setIfInBounds_toArray, List.set_cons_zero, List.set_cons_succ]
          refine stepH 21 95 (.bool false) rfl (by kernel_rfl) (by kernel_rfl) (by kernel_rfl) (by go_simp) hS5 ?_
          simp only [List.setIfInBounds_toArray, List.set_cons_zero, List.set_cons_succ]
          refine stepH 22 96 (.bool false) rfl (by kernel_rfl) (by kernel_rfl) (by kernel_rfl) (by kernel_rfl) hS5 ?_
          simp only [List.setIfInBounds_toArray, List.set_cons_zero, List.set_cons_succ]
          refine wpAnyH_done (by kernel_rfl) ?_ _
          have HNX : Hid (j + 1 ≤ i ∧ (Lit.int .i64 x).wf = true ∧ FsO w w5 t (i + 1) (Al7 x (xs.drop (j + 1))) (.slice (some aa) i co) xs) := Hid.mk ⟨HLT.out, HWX.out, H5.out.1⟩
          go_wp2
          go_roundw
          case rel => exact ⟨j + 1, x, rfl, rfl, HNX⟩
          case measure => (have := HLT.out; simp [Go.RowKit.intOf]; omega)
        · obtain rfl : j = i := by have := HJ.out.1; omega
          have HC := Hid.mk (HR2.out p wr HJ.out.2.1 (by have := HJ.out.2.2; rwa [List.drop_eq_nil_of_le (by have := HX.out; omega)] at this))
          clear HJ
          go_wp2_with (first
            | (go_at_call 14; refine HC.out.mono ?_; rintro e w4 ⟨ag, cg, rfl, H4⟩; have HD := Hid.mk (HH2.out w4 H4.out); clear HC H4)
            | (go_at_call 18; refine HD.out.mono ?_; rintro e w5 ⟨ag5, cg5, rfl, hB5⟩; have HB5 := Hid.mk hB5; clear hB5 HD)
            | go_in)
          go_ret
          exact ⟨rfl, HB5.out⟩
end Go.Proofs.Ytoediflikoedaaa
