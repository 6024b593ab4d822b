/-
  Stuck: its beginning and its end.
-/
import Derived.Test.YtoediflikoedaaaLkSk
namespace Go.Proofs.Ytoediflikoedaaa
open Go Go.Proofs Go.RowKit Go.Shelf Go.Maps
attribute [local go_sem] Oper.semAt_some
section
variable {F : Nat → Prop} {w : World} {t : Nat} {D : Td}
theorem rowL_some {f : Int → Option (Value × List Int)} {i z : Int} (h : z ∈ rowL f i) : (f i).isSome = true := by
  unfold rowL at h
  cases e : f i with
  | none => rw [e] at h; cases h
  | some _ => rfl
theorem sk_start0 (hWT : Calls Try.prog 38 #[ptV t] w fun e w' => ∃ t1, e = .returned (ptV t1) ∧ Hid (WtTo w D t1 w')) (hok : D.abs.Ok) {N : Nat} (hf : Fit N D) (hN : N ≤ 300) :
    Calls Try.prog 38 #[ptV t] w fun e w1 => ∃ t1, e = .returned (ptV t1) ∧ Hid (Calls Try.prog 39 #[ptV t1] w1 fun e w2 => ∃ hbk, e = .returned (.map (some hbk)) ∧ Hid (Calls Try.prog 40 #[ptV t1, .map (some hbk)] w2 fun e w3 => ∃ ao m c cb, e = .returned (.slice ao m c) ∧ Hid (∃ D1 f l, l.length = m ∧ SkI w t1 hbk cb D.abs.waited (2 * N) 100000 (fun _ => False) 0 w3 D1 f (.slice ao m c) l ∧ Cv D1.abs f l 0 [] 0 []))) := by
  obtain ⟨⟨B, hB1, hB2⟩, hR⟩ := hf
  refine hWT.mono ?_
  rintro e w1 ⟨t1, rfl, HQ⟩
  refine ⟨t1, rfl, Hid.mk ?_⟩
  obtain ⟨D1, a1, a2, a3, a4, a5, a6, a7, a8, a9, a10, a11⟩ := HQ.out
  have hrw : ∀ i, ¬ (Lit.int .i64 i).wf = true → D.abs.rows i = none := fun i hi => by
    cases e : D.abs.rows i with
    | none => rfl
    | some L =>
      obtain ⟨b1, _, b3, _⟩ := hok.row i L e
      cases L with
      | nil => exact absurd rfl b1
      | cons l r =>
        obtain ⟨c1, c2, _⟩ := b3 l (by simp)
        exact absurd (c2 ▸ c1.2) hi
  have habs : D1.abs = D.abs.waited := by
    have e1 : D1.abs.rows = D.abs.rows := by
      funext i
      by_cases hi : (Lit.int .i64 i).wf = true
      · exact a4 i hi
      · rw [hrw i hi]
        cases e : D1.rows i with
        | none => exact absr_at e
        | some x => exact absurd (a10 i x e) hi
    have e2 : D1.abs.held = D.abs.waited.held := by
      funext i
      show _ = if (D.abs.rows i).isSome then D.abs.held i else Option.none
      by_cases hi : (Lit.int .i64 i).wf = true
      · rw [a5 i hi]
        cases D.abs.rows i <;> rfl
      · rw [hrw i hi]
        cases e : D1.held i with
        | none => exact abs_at e
        | some x => exact absurd (a9 i x e) hi
    have e3 : D1.abs.waits = D.abs.waits := a3
    show Ta.mk D1.abs.held D1.abs.rows D1.abs.waits = Ta.mk D.abs.waited.held D.abs.rows D.abs.waits
    rw [e1, e2, e3]
  have hS1 : ∀ i x, D1.held i = some x → x.S.length ≤ N := fun i x hi => by
    have e1 : D1.abs.held i = some (x.S, x.al) := abs_at hi
    rw [habs] at e1
    have e1 : (if (D.abs.rows i).isSome then D.abs.held i else Option.none) = some (x.S, x.al) := e1
    split at e1
    · cases e2 : D.held i with
      | none => rw [abs_at e2] at e1; cases e1
      | some y =>
        rw [abs_at e2] at e1
        have := hB1.2 i y e2
        simp at e1
        rw [← e1.1]
        omega
    · cases e1
  have hL1 : ∀ i x, D1.rows i = some x → x.L.length ≤ N := fun i x hi => by
    have e1 : D1.abs.rows i = some x.L := absr_at hi
    rw [habs] at e1
    cases e2 : D.rows i with
    | none => have e1 : D.abs.rows i = some x.L := e1; rw [absr_at e2] at e1; cases e1
    | some y =>
      have e1 : D.abs.rows i = some x.L := e1
      rw [absr_at e2] at e1
      have := hR.2 i y e2
      simp at e1
      rw [← e1]
      omega
  have hok1 : D1.abs.Ok := by rw [habs]; exact ok_waited hok
  have hnr := hR.1
  have hT : D1.nh * N ≤ 90000 := Nat.le_trans (Nat.mul_le_mul (show D1.nh ≤ 300 by omega) hN) (by omega)
  refine (byth_any a1 a2 hS1 (by omega)).mono ?_
  rintro e w2 ⟨hbk, rfl, HB⟩
  refine ⟨hbk, rfl, Hid.mk ?_⟩
  obtain ⟨f, b1, b2⟩ := HB.out
  obtain ⟨Fh, n, c1, c2, c3⟩ := b1.at'
  have hs1 := a11.size
  have hs2 := b1.below.size
  refine (free_any (a1.below b1.below) hbk n f c1.map (by omega)).mono ?_
  rintro e w3 ⟨v, l, rfl, HF⟩
  obtain ⟨d1, d2, d3, d4, d5⟩ := HF.out
  have hs3 := d2.size
  obtain ⟨ao, c, rfl⟩ : ∃ ao c, v = .slice ao l.length c := by
    rcases d1.2 with ⟨e, h0⟩ | ⟨gb, cap, cur, e, _⟩
    · exact ⟨none, 0, by rw [e, h0]⟩
    · exact ⟨_, _, e⟩
  obtain ⟨_, _, cb, _, _, hcb⟩ := a2
  have hvb : ∀ k, (Value.slice ao l.length c).ownBlock = some k → w2.heap.size ≤ k := fun k hk => by
    rcases d1.2 with ⟨e, _⟩ | ⟨gb, cap, cur, e, hb, _⟩
    · rw [e] at hk; cases hk
    · rw [e] at hk
      have : gb = k := Option.some.inj hk
      omega
  refine ⟨ao, l.length, c, cb, rfl, Hid.mk ⟨D1, f, l, rfl, ⟨⟨fun k => w.heap.size ≤ k ∧ k < w1.heap.size, Fh, n, D1.nh * N, ((a1.mono (fun k hk q => ⟨q, hk⟩)).below b1.below).below d2, c1.only (Only.of_new (fun _ => False) d2) (fun _ _ _ q => q), owns_base d1 (Nat.zero_le _), fun k hk => ⟨hk.1, by omega, fun q => by have := (c3 k q).1; omega, fun q => by have := hvb k q; omega, fun q => q⟩, fun k hk => ⟨by have := (c3 k hk).1; omega, by have := (c3 k hk).2.1; omega, fun q => by have := hvb k q; have := (c3 k hk).2.1; omega, fun q => q⟩, fun k hk => ⟨by have := hvb k hk; omega, fun q => q⟩, c2, by omega, b1.len, by omega⟩, d3, b1.wf, hok1, .inr ⟨_, _, _, by assumption, by assumption, hcb⟩, ⟨⟨N, ⟨by omega, hS1⟩, by omega⟩, by omega, fun i x hi => by have := hL1 i x hi; omega⟩, hcb, by rw [habs]; exact .refl, a11.trans ((b1.below.mono hs1).trans (d2.mono (by omega)))⟩, ?_⟩⟩
  intro th tg hh
  obtain ⟨x, hx⟩ := holds_some hh
  obtain ⟨e1, e2, e3⟩ := hok1.hd tg _ (abs_at hx)
  have hm := b2 th tg e3 hh
  refine .inr ⟨.inl hm, fun hw => .inl (d4 th ?_ (rowL_some hm) hw)⟩
  have : th ∈ x.S := by
    unfold Ta.holds at hh
    rw [abs_at hx] at hh
    simpa [holdB] using hh
  exact e2.2 th this
theorem sk_start (h : TbAt F w t D) (hM : D.Made) (hok : D.abs.Ok) {N : Nat} (hf : Fit N D) (hN : N ≤ 300) :
    Calls Try.prog 38 #[ptV t] w fun e w1 => ∃ t1, e = .returned (ptV t1) ∧ Hid (Calls Try.prog 39 #[ptV t1] w1 fun e w2 => ∃ hbk, e = .returned (.map (some hbk)) ∧ Hid (Calls Try.prog 40 #[ptV t1, .map (some hbk)] w2 fun e w3 => ∃ ao m c cb, e = .returned (.slice ao m c) ∧ Hid (∃ D1 f l, l.length = m ∧ SkI w t1 hbk cb D.abs.waited (2 * N) 100000 (fun _ => False) 0 w3 D1 f (.slice ao m c) l ∧ Cv D1.abs f l 0 [] 0 []))) := by
  have hf' := hf
  obtain ⟨⟨B, hB1, hB2⟩, hR⟩ := hf
  have hrl : ∀ i x, D.rows i = some x → x.L ≠ [] ∧ x.L.length ≤ 1000000 ∧ ∃ y, D.held i = some y := fun i x hi => by
    obtain ⟨a1, a2, _⟩ := hok.row i x.L (absr_at hi)
    refine ⟨a1, by have := hR.2 i x hi; omega, ?_⟩
    cases e : D.held i with
    | none => rw [abs_at e] at a2; cases a2
    | some y => exact ⟨y, rfl⟩
  exact sk_start0 (waited_any h hM hrl (by have := hR.1; omega) (by omega)) hok hf' hN
end
section
variable {w0 : World} {t hb cb : Nat} {A0 : Ta} {N M0 : Nat} {wr : World} {D : Td} {f : Int → Option (Value × List Int)} {fv : Value}
/-- Nobody is free any more: who waits, waits for good. -/
theorem sk_end (h : SkI w0 t hb cb A0 N M0 (fun _ => False) 0 wr D f fv []) (hM : M0 ≤ 1000000) : wr.cell? ⟨t, 2, none⟩ = some (.map (some cb)) ∧ Calls Try.prog 41 #[.map (some cb)] wr fun e w1 => e = .returned (.func (.func 49) #[] #[.pointer (some ⟨wr.heap.size, 0, none⟩)]) ∧ Hid (Calls Try.prog 35 #[.func (.func 49) #[] #[.pointer (some ⟨wr.heap.size, 0, none⟩)]] w1 fun e w2 => ∃ v L, e = .returned v ∧ Hid (KeyL (intF lkV D.waits) L ∧ w2.ownsRow w0.heap.size 3 1 v L.length (Iy L) ∧ Below w0.heap.size w0 w2)) := by
  obtain ⟨Ft, Fh, n, M, a1, a2, a3, a4, a5, a6, a7, a8, a9, a10⟩ := h.mem
  have c2 := a1.cells.2.2
  rw [h.wm] at c2
  have hm := a1.wmapAt
  rw [h.wm] at hm
  obtain ⟨L, hL, hn⟩ := keys_exist (show MAt wr 3 cb D.nw (intF lkV D.waits) from hm) (fun x hx => by
    cases e : D.waits x with
    | none => rw [e] at hx; cases hx
    | some l =>
      obtain ⟨q1, L, q2, q3⟩ := h.ok.wt x l e
      have := ((h.ok.row _ L q2).2.2.1 l q3).1.1
      rwa [q1] at this)
  refine ⟨c2, (keysB_call (some cb) wr).mono ?_⟩
  rintro e w1 ⟨rfl, rfl⟩
  refine ⟨rfl, Hid.mk ((sortedB_call wr (some cb) (intF lkV D.waits) L (by rw [hn]; exact hm) hL (by omega)).mono ?_)⟩
  rintro e w2 ⟨v, rfl, HQ⟩
  exact ⟨v, L, rfl, Hid.mk ⟨hL, owns_base HQ.out.1 h.below.size, h.below.trans (HQ.out.2.2.mono h.below.size)⟩⟩
end
end Go.Proofs.Ytoediflikoedaaa
