/-
  A chain of changes; Done, Need, told by what a graph holds.
-/
import Derived.Test.YthmbhcmicebcpaaDpNeed
import Derived.Test.YthmbhcmicebcpaaLayDr
namespace Go.Proofs.Ythmbhcmicebcpaa
open Go Go.Proofs Go.RowKit Go.Shelf
attribute [local go_sem] Oper.semAt_some
def bufC (N : Nat) (bk : Bool) (j : Int) : Int := if bk then (N : Int) - j else j
/-- A chain of n changes, the first k of them done. -/
structure Ch (N : Nat) (bk : Bool) (n k : Nat) (G : Gp) : Prop where
  n' : G.n = n
  bf : ∀ j : Int, 0 ≤ j ∧ j < n → G.buf j = bufC N bk j
  on : ∀ j : Int, 0 ≤ j ∧ j < n → G.on j = if j = 0 then [] else [j - 1]
  dn : ∀ j : Int, 0 ≤ j ∧ j < n → G.dn j = decide (j < k)
theorem ch_none (N : Nat) (bk : Bool) : Ch N bk 0 0 Gp.none := ⟨rfl, fun j h => (by omega), fun j h => (by omega), fun j h => (by omega)⟩
theorem ch_add {N : Nat} {bk : Bool} {n : Nat} {G : Gp} (h : Ch N bk n 0 G) : Ch N bk (n + 1) 0 (G.add (bufC N bk n) (if n = 0 then [] else [(n : Int) - 1])) := by
  have hn := h.n'
  refine ⟨by show G.n + 1 = _; rw [hn], fun j hj => ?_, fun j hj => ?_, fun j hj => ?_⟩
  · by_cases e : j = (G.n : Int)
    · show (if j = (G.n : Int) then _ else _) = _
      rw [if_pos e, e, hn]
    · show (if j = (G.n : Int) then _ else _) = _
      rw [if_neg e]; exact h.bf j (by omega)
  · by_cases e : j = (G.n : Int)
    · show (if j = (G.n : Int) then _ else _) = _
      rw [if_pos e, e, hn]
      by_cases e0 : n = 0
      · rw [if_pos e0, if_pos (by omega)]
      · rw [if_neg e0, if_neg (by omega)]
    · show (if j = (G.n : Int) then _ else _) = _
      rw [if_neg e]; exact h.on j (by omega)
  · by_cases e : j = (G.n : Int)
    · show (if j = (G.n : Int) then _ else _) = _
      rw [if_pos e]
      symm
      exact decide_eq_false (by omega)
    · show (if j = (G.n : Int) then _ else _) = _
      rw [if_neg e]; exact h.dn j (by omega)
theorem ch_fin {N : Nat} {bk : Bool} {n k : Nat} {G : Gp} (h : Ch N bk n k G) : Ch N bk n (k + 1) (G.fins [(k : Int)]) := by
  refine ⟨h.n', h.bf, h.on, fun j hj => ?_⟩
  show (if j = (k : Int) then true else G.dn j) = _
  by_cases e : j = (k : Int)
  · rw [if_pos e]
    symm
    exact decide_eq_true (by omega)
  · rw [if_neg e, h.dn j hj]
    exact decide_eq_decide.2 (by omega)
section
variable {N : Nat} {bk : Bool} {n k : Nat} {G : Gp} {A : Ga}
theorem ch_und (h : Ch N bk n k G) {x : Int} : und G x ↔ (k : Int) ≤ x ∧ x < n := by
  unfold und
  rw [h.n']
  constructor
  · rintro ⟨h1, h2⟩
    rw [h.dn x h1] at h2
    have := of_decide_eq_false h2
    omega
  · rintro ⟨h1, h2⟩
    exact ⟨⟨by omega, h2⟩, by rw [h.dn x (by omega)]; exact decide_eq_false (by omega)⟩
theorem ch_hng (h : Ch N bk n k G) {y x : Int} (hy : und G y) : hng G y x ↔ x = y - 1 ∧ (k : Int) ≤ x := by
  have hu := (ch_und h).1 hy
  unfold hng
  rw [h.on y (by omega), ch_und h]
  by_cases e : y = 0
  · rw [if_pos e]
    simp only [List.not_mem_nil, false_and, false_iff]
    omega
  · rw [if_neg e, List.mem_singleton]
    omega
theorem ch_may (h : Ch N bk n k G) (hk : k < n) {x : Int} : mayP G x ↔ x = k := by
  unfold mayP
  constructor
  · rintro ⟨h1, h2⟩
    have hu := (ch_und h).1 h1
    by_cases e : x = k
    · exact e
    · exact absurd ((ch_hng h h1).2 ⟨rfl, by omega⟩) (h2 _)
  · rintro rfl
    have hu : und G (k : Int) := (ch_und h).2 (by omega)
    exact ⟨hu, fun z hz => by have := (ch_hng h hu).1 hz; omega⟩
theorem ch_next (h : Ch N bk n k G) (hR : Rel G A) (hk : k < n) : nxL A (bufC N bk k) = [(k : Int)] := by
  obtain ⟨p1, p2⟩ := nx_pw hR (bufC N bk k)
  refine rise_ext p1 (by simp) (fun x => ?_)
  rw [p2 x, ch_may h hk, List.mem_singleton]
  exact ⟨fun q => q.1, fun q => ⟨q, by rw [q]; exact h.bf _ (by omega)⟩⟩
theorem ch_ready (h : Ch N bk n k G) (hG : G.Ok) (hk : k < n) : bufP G (fun j => mayB G j) G.n = [bufC N bk k] := by
  refine rise_ext (bufP_pw _ _ _) (by simp) (fun x => ?_)
  rw [bufP_mem, List.mem_singleton, h.n']
  constructor
  · rintro ⟨j, h1, h2, rfl⟩
    have hm := (ch_may h hk).1 ((may_iff hG ⟨by omega, by rw [h.n']; omega⟩).1 h2)
    rw [h.bf _ (by omega), hm]
  · rintro rfl
    exact ⟨k, hk, (may_iff hG ⟨by omega, by rw [h.n']; omega⟩).2 ((ch_may h hk).2 rfl), h.bf _ (by omega)⟩
theorem ch_reach (h : Ch N bk n k G) (d : Nat) : k + d < n → Reach G [(n : Int) - 1] ((n : Int) - 1 - d) := by
  induction d with
  | zero => intro _; exact .here (by simp)
  | succ d ih =>
    intro hd
    have hr := ih (by omega)
    have hu : und G ((n : Int) - 1 - d) := (ch_und h).2 (by omega)
    exact .step hr hu ((ch_hng h hu).2 ⟨by omega, by omega⟩)
theorem ch_need (h : Ch N bk n k G) : (needL G [(n : Int) - 1]).length = n - k := by
  have e : needL G [(n : Int) - 1] = pick (fun j => decide (k ≤ j)) n := by
    refine rise_ext (need_pw _ _) (pick_pw _ _) (fun x => ?_)
    rw [need_mem, pick_mem]
    constructor
    · rintro ⟨h1, _⟩
      have hu := (ch_und h).1 h1
      exact ⟨x.toNat, by omega, by omega, decide_eq_true (by omega)⟩
    · rintro ⟨j, rfl, h1, h2⟩
      have h2 := of_decide_eq_true h2
      refine ⟨(ch_und h).2 (by omega), ?_⟩
      have := ch_reach h (n - 1 - j) (by omega)
      rw [show (n : Int) - 1 - ((n - 1 - j : Nat) : Int) = (j : Int) by omega] at this
      exact this
  rw [e]
  have gen : ∀ m, (pick (fun j => decide (k ≤ j)) m).length = m - k := by
    intro m
    induction m with
    | zero => simp [pick]
    | succ m ih =>
      rw [pick_succ]
      by_cases hm : k ≤ m
      · rw [if_pos (decide_eq_true hm), List.length_append, ih]; simp; omega
      · rw [if_neg (by simp; omega), ih]; omega
  exact gen n
theorem ch_cnt (h : Ch N bk n n G) : cnt G = 0 := by
  rcases Nat.eq_zero_or_pos (cnt G) with q | q
  · exact q
  · exfalso
    unfold cnt at q
    obtain ⟨j, hj⟩ := List.exists_mem_of_length_pos q
    rw [List.mem_filter, List.mem_range, h.n'] at hj
    have := h.dn (j : Int) (by omega)
    rw [decide_eq_true (by omega : (j : Int) < (n : Int))] at this
    simp [this] at hj
end
section
variable {X : Nat → Prop} {w W : World} {g : Nat} {A : Ga} {G : Gp}
set_option maxRecDepth 100000 in
set_option maxHeartbeats 4000000 in
theorem r_done (hO : DpO X w W g A) (h : Rel G A) (x : Int) (hx : (Lit.int .i64 x).wf = true) : Calls Try.prog 12 #[ptV g, .int .i64 x] W fun e W' => e = .returned (.bool (!noneB G.n x && (A.ch x).isNone)) ∧ W' = W := by
  obtain ⟨D, h1, rfl, h3, h4⟩ := hO
  have had : D.added = G.n := h.ad
  obtain ⟨c0, c1, _, _⟩ := h1.cellsG
  have HNO := Hid.mk (isnone_raw W g D.added c0 x)
  have hlk := h1.lookC hx
  have e1 : (D.abs.ch x).isNone = ((D.ch x).map (·.cb)).isNone := by
    show ((D.ch x).map Cx.dat).isNone = _
    cases D.ch x <;> rfl
  rw [had] at HNO
  rw [e1]
  generalize (D.ch x).map (·.cb) = ob at hlk ⊢
  generalize D.lm = lm at c1 hlk
  generalize noneB G.n x = nb at HNO ⊢
  clear h h1 h3 h4 e1 had c0
  go_enter Try.func12, Try.ntmps12
  cases nb with
  | true =>
    go_wp2_with (first
      | (go_at_call 32; refine HNO.out.mono ?_; rintro e w1 ⟨rfl, hw1⟩; have hw1' := hw1.symm; clear hw1; subst hw1')
      | go_in)
    go_ret
    exact ⟨rfl, rfl⟩
  | false =>
    cases ob with
    | none =>
      simp only [optV] at hlk
      go_wp2_with (first
        | (go_at_call 32; refine HNO.out.mono ?_; rintro e w1 ⟨rfl, hw1⟩; have hw1' := hw1.symm; clear hw1; subst hw1')
        | go_in)
      go_ret
      exact ⟨rfl, rfl⟩
    | some cb =>
      simp only [optV] at hlk
      go_wp2_with (first
        | (go_at_call 32; refine HNO.out.mono ?_; rintro e w1 ⟨rfl, hw1⟩; have hw1' := hw1.symm; clear hw1; subst hw1')
        | go_in)
      go_ret
      exact ⟨rfl, rfl⟩
theorem r_need (hO : DpO X w W g A) (h : Rel G A) (hGn : G.n ≤ 100000) (ao : Option Addr) (m cc : Nat) (xs : List Int) (hx : LAt W ao m xs) (hw : ∀ x ∈ xs, (Lit.int .i64 x).wf = true) (hm : m ≤ 100000) : Calls Try.prog 23 #[ptV g, .slice ao m cc] W fun e W' => ∃ v, e = .returned v ∧ Hid (W'.ownsRow W.heap.size 3 1 v (needL G xs).length (Iy (needL G xs)) ∧ Below W.heap.size W W') := by
  obtain ⟨D, h1, rfl, h3, h4⟩ := hO
  refine (need_any h1.tight (fun k q => by obtain ⟨n, hn⟩ := q; exact h1.lt hn) h hGn ao m cc xs hx hw hm).mono ?_
  rintro e W' ⟨v, rfl, q1, q2⟩
  exact ⟨v, rfl, Hid.mk ⟨q1, q2⟩⟩
end
end Go.Proofs.Ythmbhcmicebcpaa
