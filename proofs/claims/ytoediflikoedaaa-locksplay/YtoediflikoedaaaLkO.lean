/-
  A table that was made since, and what is asked of it.
-/
import Derived.Test.YtoediflikoedaaaLkSame
namespace Go.Proofs.Ytoediflikoedaaa
open Go Go.Proofs Go.RowKit Go.Shelf
/-- A table made since w that holds A; the blocks of X lie beside it; N: how often it was asked. -/
structure LkO (X : Nat → Prop) (w W : World) (t : Nat) (A : Ta) (N : Nat) : Prop where
  at' : ∃ D, TbAt (fun k => w.heap.size ≤ k ∧ ¬ X k) W t D ∧ D.abs = A ∧ D.St ∧ Fit N D
  ok : A.Ok
  bel : Below w.heap.size w W
  lt : ∀ k, X k → k < W.heap.size
section
variable {X X' : Nat → Prop} {w W W' : World} {t N : Nat} {A : Ta}
theorem LkO.grow (h : LkO X w W t A N) (hB : Below W.heap.size W W') : LkO X w W' t A N := by
  obtain ⟨D, h1, h2⟩ := h.at'
  exact ⟨⟨D, h1.below hB, h2⟩, h.ok, h.bel.trans (hB.mono h.bel.size), fun k hk => Nat.lt_of_lt_of_le (h.lt k hk) hB.size⟩
theorem LkO.side (h : LkO X w W t A N) {S : Nat → Prop} (hO : Only S W W') (hS : ∀ k, S k → X k ∧ w.heap.size ≤ k) (hX : ∀ k, X' k → k < W'.heap.size ∧ (X k ∨ W.heap.size ≤ k)) : LkO X' w W' t A N := by
  obtain ⟨D, h1, h2⟩ := h.at'
  exact ⟨⟨D, (h1.old.only hO (fun k hk _ q => hk.1.2 (hS k q).1)).mono (fun k _ hk => ⟨hk.1.1, fun q => (hX k q).2.elim hk.1.2 (fun r => by have := hk.2; omega)⟩), h2⟩, h.ok, h.bel.trans (hO.below h.bel.size (fun k hk => (hS k hk).2)), fun k hk => (hX k hk).1⟩
theorem LkO.drop (h : LkO X w W t A N) : LkO (fun _ => False) w W t A N := h.side (Only.refl (fun _ => False) W) (fun _ q => q.elim) (fun _ q => q.elim)
theorem o_new (hB : Below w.heap.size w W) : Calls Try.prog 10 #[] W fun e W' => ∃ t, e = .returned (ptV t) ∧ Hid (LkO (fun _ => False) w W' t Ta.none 0) := by
  refine (new_any W).mono ?_
  rintro e W' ⟨rfl, rfl⟩
  exact ⟨_, rfl, Hid.mk ⟨⟨Td.none, TbAt.fresh ⟨hB.size, fun q => q⟩ (blk_new W _), rfl, .inl rfl, Fit.none⟩, ok_none, hB.alloc hB.size _, fun k q => q.elim⟩⟩
theorem o_ask (h : LkO X w W t A N) (l : Lk) (hl : l.wf) (hN : N < 1000000) : Calls Try.prog 11 #[ptV t, lkV l] W fun e W' => e = .returned (.bool (A.askB l)) ∧ Hid (LkO X w W' t (A.ask l) (N + 1) ∧ ∀ k, X k → W'.heap[k]? = W.heap[k]?) := by
  obtain ⟨D, h1, rfl, h3, h4⟩ := h.at'
  refine (ask_any h1 l hl h3 h4 hN).mono ?_
  rintro e W' ⟨rfl, D', HQ⟩
  obtain ⟨a1, a2, a3, a4, a5⟩ := HQ.out
  refine ⟨rfl, Hid.mk ⟨⟨⟨D', a1.mono (fun k hk q => ?_), a3, a4, a5⟩, ok_ask h.ok l hl, h.bel.trans (a2.below h.bel.size (fun k hk => hk.1)), fun k hk => Nat.lt_of_lt_of_le (h.lt k hk) a2.size⟩, fun k hk => a2.block k (h.lt k hk) (fun q => q.2 hk)⟩⟩
  rcases q with q | q
  · exact q
  · exact ⟨Nat.le_trans h.bel.size q, fun r => by have := h.lt k r; omega⟩
theorem o_rel (h : LkO X w W t A N) (p x : Int) (hp : (Lit.int .i64 p).wf = true) (hx : (Lit.int .i64 x).wf = true) (hN : N ≤ 400000) : Calls Try.prog 14 #[ptV t, .int .i64 p, .int .i64 x] W fun e W' => ∃ ao c, e = .returned (.slice ao (A.relL p x).length c) ∧ Hid (SlOk W' (.slice ao (A.relL p x).length c) (A.relL p x) ∧ LkO (fun k => X k ∨ (Value.slice ao (A.relL p x).length c).ownBlock = some k) w W' t (A.rel p x) N ∧ ∀ k, X k → W'.heap[k]? = W.heap[k]?) := by
  obtain ⟨D, h1, rfl, h3, h4⟩ := h.at'
  refine (rel_any h1 p x hp hx h3 h4 hN (abs_rowok h.ok x)).mono ?_
  rintro e W' ⟨u, rfl, HQ⟩
  obtain ⟨b1, b2, b3, D', b4, b5, b6, b7, b8, b9⟩ := HQ.out
  obtain ⟨ao, c, rfl⟩ := b1.slice
  refine ⟨ao, c, rfl, Hid.mk ⟨b1, ⟨⟨D', b4.mono (fun k hk q => ?_), b5, b7, b6⟩, ok_rel h.ok p x, h.bel.trans (b3.below h.bel.size (fun k hk => hk.1)), fun k hk => ?_⟩, fun k hk => b3.block k (h.lt k hk) (fun q => q.2 hk)⟩⟩
  · obtain ⟨q1, q2⟩ := q
    rcases q1 with q1 | q1
    · exact ⟨q1.1, fun r => r.elim q1.2 q2⟩
    · exact ⟨Nat.le_trans h.bel.size q1, fun r => r.elim (fun r => by have := h.lt k r; omega) q2⟩
  · rcases hk with q | q
    · exact Nat.lt_of_lt_of_le (h.lt k q) b3.size
    · exact b1.lt q
theorem o_holders (h : LkO X w W t A N) (x : Int) (hx : (Lit.int .i64 x).wf = true) (hN : N ≤ 1000000) : Calls Try.prog 18 #[ptV t, .int .i64 x] W fun e W' => ∃ ao c, e = .returned (.slice ao (holdL (A.held x)).length c) ∧ Hid (LAt W' ao (holdL (A.held x)).length (holdL (A.held x)) ∧ LkO X w W' t A N ∧ ∀ k, X k → W'.heap[k]? = W.heap[k]?) := by
  obtain ⟨D, h1, rfl, h3, h4⟩ := h.at'
  refine (holders_any h1 x hx h4 hN).mono ?_
  rintro e W' ⟨v, rfl, HQ⟩
  obtain ⟨ao, c, rfl, hl⟩ := owns_lat HQ.out.1
  exact ⟨ao, c, rfl, Hid.mk ⟨hl, h.grow HQ.out.2, fun k hk => HQ.out.2.block k (h.lt k hk)⟩⟩
theorem o_holds (h : LkO X w W t A N) (p x : Int) (hp : (Lit.int .i64 p).wf = true) (hx : (Lit.int .i64 x).wf = true) : Calls Try.prog 19 #[ptV t, .int .i64 p, .int .i64 x] W fun e W' => e = .returned (.bool (A.holds p x)) ∧ Hid (LkO X w W' t A N ∧ Below W.heap.size W W') := by
  obtain ⟨D, h1, rfl, h3, h4⟩ := h.at'
  refine (holds_any h1 p x hp hx).mono ?_
  rintro e W' ⟨rfl, hB⟩
  exact ⟨rfl, Hid.mk ⟨h.grow hB, hB⟩⟩
theorem o_waits (h : LkO X w W t A N) (p : Int) (hp : (Lit.int .i64 p).wf = true) : Calls Try.prog 16 #[ptV t, .int .i64 p] W fun e W' => e = .returned (.tuple #[lkV ((A.waits p).getD Lk.zero), .bool (A.waits p).isSome]) ∧ Hid (LkO X w W' t A N ∧ Below W.heap.size W W') := by
  obtain ⟨D, h1, rfl, h3, h4⟩ := h.at'
  refine (waits_any h1 p hp).mono ?_
  rintro e W' ⟨rfl, hB⟩
  exact ⟨rfl, Hid.mk ⟨h.grow hB, hB⟩⟩
theorem o_stuck (h : LkO X w W t A N) (hA : A ≠ Ta.none) (hN : N ≤ 300) : Calls Try.prog 23 #[ptV t] W fun e W' => ∃ ao n c, e = .returned (.slice ao n c) ∧ Hid (∃ L A', L.length = n ∧ Steps A.waited A' ∧ A'.Done ∧ A'.Ok ∧ KeyL (intF lkV A'.waits) L ∧ LAt W' ao n L ∧ LkO X w W' t A N ∧ Below W.heap.size W W') := by
  obtain ⟨D, h1, rfl, h3, h4⟩ := h.at'
  have hM : D.Made := by
    rcases h3 with rfl | q
    · exact absurd rfl hA
    · exact q
  refine (stuck_any h1 hM h.ok h4 hN).mono ?_
  rintro e W' ⟨v, rfl, HQ⟩
  obtain ⟨L, A', a1, a2, a3, a4, a5, a6⟩ := HQ.out
  obtain ⟨ao, c, rfl, hl⟩ := owns_lat a5
  exact ⟨ao, L.length, c, rfl, Hid.mk ⟨L, A', rfl, a1, a2, a3, a4, hl, h.grow a6, a6⟩⟩
end
theorem wf_of {x : Int} (h : -1000 ≤ x ∧ x ≤ 1000) : (Lit.int .i64 x).wf = true := by
  have e1 : IntKind.i64.min = -9223372036854775808 := by decide
  have e2 : IntKind.i64.max = 9223372036854775807 := by decide
  simp [Lit.wf, e1, e2]
  omega
theorem steps_done {A A' : Ta} (h : A.Done) (hs : Steps A A') : A' = A := by
  induction hs with
  | refl => rfl
  | step p x _ hp ih =>
    subst ih
    cases hh : Ta.holds _ p x with
    | false => exact (rel_same hh).1
    | true =>
      have := h p x hh
      rw [hp] at this
      cases this
def al1 : Ta := ⟨updC (fun _ => none) 7 (some ([1], true)), fun _ => none, fun _ => none⟩
def al2 : Ta := ⟨updC (updC (fun _ => none) 7 (some ([1], true))) 8 (some ([2], true)), fun _ => none, fun _ => none⟩
def al3 : Ta := ⟨updC (updC (fun _ => none) 7 (some ([1], true))) 8 (some ([2], true)), updC (fun _ => none) 8 (some [⟨1, 8, true⟩]), updC (fun _ => none) 1 (some ⟨1, 8, true⟩)⟩
def al4 : Ta := ⟨updC (updC (fun _ => none) 7 (some ([1], true))) 8 (some ([2], true)), updC (updC (fun _ => none) 8 (some [⟨1, 8, true⟩])) 7 (some [⟨2, 7, true⟩]), updC (updC (fun _ => none) 1 (some ⟨1, 8, true⟩)) 2 (some ⟨2, 7, true⟩)⟩
theorem al_1 : Ta.none.ask ⟨1, 7, true⟩ = al1 ∧ Ta.none.askB ⟨1, 7, true⟩ = true := by
  simp [Ta.ask, Ta.askB, Ta.none, Ta.holds, holdB, besB, Ta.grant, putH, al1]
theorem al_2 : al1.ask ⟨2, 8, true⟩ = al2 ∧ al1.askB ⟨2, 8, true⟩ = true := by
  simp [Ta.ask, Ta.askB, Ta.holds, holdB, besB, Ta.grant, putH, al1, al2, updC_other]
theorem al_3 : al2.ask ⟨1, 8, true⟩ = al3 ∧ al2.askB ⟨1, 8, true⟩ = false := by
  simp [Ta.ask, Ta.askB, Ta.holds, holdB, besB, Ta.wait, al2, al3, updC_same]
theorem al_4 : al3.ask ⟨2, 7, true⟩ = al4 ∧ al3.askB ⟨2, 7, true⟩ = false := by
  simp [Ta.ask, Ta.askB, Ta.holds, holdB, besB, Ta.wait, al3, al4, updC_same, updC_other]
theorem al_done : al4.waited.Done := by
  intro th tg hh
  have : al4.holds th tg = true := by
    have hh : holdB (if (al4.rows tg).isSome then al4.held tg else Option.none) th = true := hh
    split at hh
    · exact hh
    · cases hh
  have this : holdB (updC (updC (fun _ => none) 7 (some (([1] : List Int), true))) 8 (some (([2] : List Int), true)) tg) th = true := this
  show (updC (updC (fun _ => none) 1 (some (⟨1, 8, true⟩ : Lk))) 2 (some ⟨2, 7, true⟩) th).isSome = true
  by_cases e8 : tg = 8
  · subst e8
    rw [updC_same] at this
    simp [holdB] at this
    subst this
    rw [updC_same]
    rfl
  · rw [updC_other _ _ e8] at this
    by_cases e7 : tg = 7
    · subst e7
      rw [updC_same] at this
      simp [holdB] at this
      subst this
      rw [updC_other _ _ (by omega), updC_same]
      rfl
    · rw [updC_other _ _ e7] at this
      cases this
theorem al_keys {L : List Int} (h : KeyL (intF lkV al4.waited.waits) L) : L = [1, 2] := by
  refine rise_ext h.1.1 (by simp) (fun x => ?_)
  have := h.2 x
  rw [intF_int, Option.isSome_map] at this
  have hw : al4.waited.waits x = updC (updC (fun _ => none) 1 (some (⟨1, 8, true⟩ : Lk))) 2 (some ⟨2, 7, true⟩) x := rfl
  rw [hw] at this
  have e : x ∈ L ↔ (updC (updC (fun _ => none) 1 (some (⟨1, 8, true⟩ : Lk))) 2 (some ⟨2, 7, true⟩) x).isSome = true := by rw [this]; simp
  rw [e]
  unfold updC
  by_cases e2 : x = 2
  · simp [e2]
  · by_cases e1 : x = 1
    · simp [e1]
    · simp [e1, e2]
theorem lat_two (W : World) (x y : Int) : LAt (W.alloc (.cells #[.int .i64 x, .int .i64 y] 3)) (some ⟨W.heap.size, 0, none⟩) 2 [x, y] := by
  have hb := blk_new W (.cells #[.int .i64 x, .int .i64 y] 3)
  refine ⟨rfl, fun _ => ⟨_, rfl, lt_of_block hb, fun j hj => ?_⟩⟩
  match j, hj with
  | 0, _ => rw [add_at, blk_cell hb]; rfl
  | 1, _ => rw [add_at, blk_cell hb]; rfl
set_option maxRecDepth 100000 in
set_option maxHeartbeats 4000000 in
theorem alive_any (w : World) : Calls Try.prog 9 #[] w fun e w' => e = .returned (.bool true) ∧ Below w.heap.size w w' := by
  have HNEW := Hid.mk (o_new (Below.refl w.heap.size w))
  have wf1 : ∀ a b : Int, (-1000 ≤ a ∧ a ≤ 1000) → (-1000 ≤ b ∧ b ≤ 1000) → ∀ c, Lk.wf ⟨a, b, c⟩ := fun a b h1 h2 c => ⟨wf_of h1, wf_of h2⟩
  have ASK : ∀ (A A' : Ta) (a b : Int) (r : Bool) (N : Nat), (-1000 ≤ a ∧ a ≤ 1000) → (-1000 ≤ b ∧ b ≤ 1000) → N < 100 → (A.ask ⟨a, b, true⟩ = A' ∧ A.askB ⟨a, b, true⟩ = r) → ∀ W t, LkO (fun _ => False) w W t A N → Calls Try.prog 11 #[ptV t, .agg #[.int .i64 a, .int .i64 b, .bool true]] W fun e W' => e = .returned (.bool r) ∧ Hid (LkO (fun _ => False) w W' t A' (N + 1)) := fun A A' a b r N h1 h2 hN he W t h => by
    refine (o_ask h ⟨a, b, true⟩ (wf1 a b h1 h2 true) (by omega)).mono ?_
    rintro e W' ⟨rfl, HQ⟩
    have := HQ.out.1
    rw [he.1] at this
    exact ⟨by rw [he.2], Hid.mk this⟩
  have HA1 := Hid.mk (ASK Ta.none al1 1 7 true 0 (by omega) (by omega) (by omega) al_1)
  have HA2 := Hid.mk (ASK al1 al2 2 8 true 1 (by omega) (by omega) (by omega) al_2)
  have HA3 := Hid.mk (ASK al2 al3 1 8 false 2 (by omega) (by omega) (by omega) al_3)
  have HA4 := Hid.mk (ASK al3 al4 2 7 false 3 (by omega) (by omega) (by omega) al_4)
  have HST : Hid (∀ W t, LkO (fun _ => False) w W t al4 4 → Calls Try.prog 23 #[ptV t] W fun e W' => ∃ ao c, e = .returned (.slice ao 2 c) ∧ Hid (LAt W' ao 2 [1, 2] ∧ Below w.heap.size w W')) := Hid.mk (fun W t h => by
    refine (o_stuck h (fun e => by have := congrArg (fun A => A.waits 1) e; simp [al4, Ta.none, updC] at this) (by omega)).mono ?_
    rintro e W' ⟨ao, n, c, rfl, HQ⟩
    obtain ⟨L, A', rfl, a1, a2, a3, a4, a5, a6, a7⟩ := HQ.out
    rw [steps_done al_done a1] at a4
    obtain rfl := al_keys a4
    exact ⟨ao, c, rfl, Hid.mk ⟨a5, a6.bel⟩⟩)
  have HSAME : Hid (∀ W ao c, LAt W ao 2 [1, 2] ∧ Below w.heap.size w W → Calls Try.prog 21 #[.slice ao 2 c, .slice (some ⟨W.heap.size, 0, none⟩) 2 2] (W.alloc (.cells #[.int .i64 1, .int .i64 2] 3)) fun e W' => e = .returned (.bool true) ∧ Below w.heap.size w W') := Hid.mk (fun W ao c hl => by
    have hB : Below W.heap.size W (W.alloc (.cells #[.int .i64 1, .int .i64 2] 3)) := (Below.refl _ W).alloc (Nat.le_refl _) _
    refine (sameints_any _ ao _ 2 2 c 2 [1, 2] [1, 2] (hl.1.next hB) (lat_two W 1 2) (by omega) (by omega)).mono ?_
    rintro e W' ⟨rfl, hB2⟩
    exact ⟨by simp, (hl.2.trans (hB.mono hl.2.size)).trans (hB2.mono (Nat.le_trans hl.2.size (by simp)))⟩)
  clear ASK wf1
  go_enter Try.func9, Try.ntmps9
  go_wp2_with (first
    | (go_at_call 10; refine HNEW.out.mono ?_; rintro e w1 ⟨t1, rfl, H1⟩; clear HNEW)
    | (go_at_call 11; refine (HA1.out _ _ H1.out).mono ?_; rintro e w2 ⟨rfl, H2⟩; clear H1)
    | (go_at_call 11; refine (HA2.out _ _ H2.out).mono ?_; rintro e w3 ⟨rfl, H3⟩; clear H2)
    | (go_at_call 11; refine (HA3.out _ _ H3.out).mono ?_; rintro e w4 ⟨rfl, H4⟩; clear H3)
    | (go_at_call 11; refine (HA4.out _ _ H4.out).mono ?_; rintro e w5 ⟨rfl, H5⟩; clear H4)
    | (go_at_call 23; refine (HST.out _ _ H5.out).mono ?_; rintro e w6 ⟨ao6, c6, rfl, H6⟩; clear H5)
    | (go_at_call 21; refine (HSAME.out _ _ _ H6.out).mono ?_; rintro e w7 ⟨rfl, h7⟩; have H7 := Hid.mk h7; clear h7 H6)
    | go_in)
  go_ret
  exact ⟨rfl, H7.out⟩
end Go.Proofs.Ytoediflikoedaaa
