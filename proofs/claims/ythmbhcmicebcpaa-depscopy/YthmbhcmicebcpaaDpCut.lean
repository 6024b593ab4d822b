/-
  What finish leans on.
-/
import Derived.Test.YthmbhcmicebcpaaDpAbs
import Derived.Test.YthmbhcmicebcpaaDpRange
import Derived.Test.YthmbhcmicebcpaaDpIn
namespace Go.Proofs.Ythmbhcmicebcpaa
open Go Go.Proofs Go.RowKit Go.Shelf
open Go.ChangeMaps (setBlock)
attribute [local go_sem] Oper.semAt_some
section
variable {F : Nat → Prop} {W W' : World} {g : Nat} {D : Gd}
/-- What the graph owns but for one change. -/
def OwnC (g : Nat) (D : Gd) (c : Cx) : Nat → Prop := fun k => OwnA g D k ∧ k ≠ c.cb ∧ c.om ≠ some k ∧ c.av.ownBlock ≠ some k
theorem GrAt.cutOff (h : GrAt F W g D) {i : Int} {c : Cx} (hi : D.ch i = some c) (h1 : GrAt F W' g { D with ch := updC D.ch i none, nl := D.nl - 1 }) : GrAt (OwnC g D c) W' g { D with ch := updC D.ch i none, nl := D.nl - 1 } := by
  have sub : ∀ n k, Own g { D with ch := updC D.ch i none, nl := D.nl - 1 } n k → Own g D n k ∧ n ≠ .ch i ∧ n ≠ .on i ∧ n ≠ .ab i := by
    intro n k hk
    have aux : ∀ j x, updC D.ch i none j = some x → D.ch j = some x ∧ j ≠ i := by
      intro j x hx
      by_cases e : j = i
      · subst e
        rw [updC_same] at hx
        cases hx
      · rw [updC_other _ _ e] at hx
        exact ⟨hx, e⟩
    cases n with
    | ch j => obtain ⟨x, hx, hk⟩ := hk; obtain ⟨a, b⟩ := aux j x hx; exact ⟨⟨x, a, hk⟩, fun e => b (by cases e; rfl), fun e => (by cases e), fun e => (by cases e)⟩
    | on j => obtain ⟨x, hx, hk⟩ := hk; obtain ⟨a, b⟩ := aux j x hx; exact ⟨⟨x, a, hk⟩, fun e => (by cases e), fun e => b (by cases e; rfl), fun e => (by cases e)⟩
    | ab j => obtain ⟨x, hx, hk⟩ := hk; obtain ⟨a, b⟩ := aux j x hx; exact ⟨⟨x, a, hk⟩, fun e => (by cases e), fun e => (by cases e), fun e => b (by cases e; rfl)⟩
    | g => exact ⟨hk, fun e => (by cases e), fun e => (by cases e), fun e => (by cases e)⟩
    | left => exact ⟨hk, fun e => (by cases e), fun e => (by cases e), fun e => (by cases e)⟩
    | bufs => exact ⟨hk, fun e => (by cases e), fun e => (by cases e), fun e => (by cases e)⟩
    | bf b => exact ⟨hk, fun e => (by cases e), fun e => (by cases e), fun e => (by cases e)⟩
    | nx b => exact ⟨hk, fun e => (by cases e), fun e => (by cases e), fun e => (by cases e)⟩
    | bl b => exact ⟨hk, fun e => (by cases e), fun e => (by cases e), fun e => (by cases e)⟩
  refine ⟨fun n k hk => ⟨?_, (h1.own n k hk).2⟩, h1.sep, h1.cont⟩
  obtain ⟨a, n1, n2, n3⟩ := sub n k hk
  exact ⟨⟨n, a⟩, fun e => n1 (h.sep _ _ k a ⟨c, hi, e.symm⟩), fun e => n2 (h.sep _ _ k a ⟨c, hi, e⟩), fun e => n3 (h.sep _ _ k a ⟨c, hi, e⟩)⟩
/-- The sets of a buffer turn where they lie. -/
theorem GrAt.bfSame {F' : Nat → Prop} {b : Int} {x : Bx} {S T : List Int} (hx : D.bf b = some x) (h : ∀ n k, Own g D n k → F k) (h1 : GrAt F' W' g { D with bf := updC D.bf b (some ⟨S, T, x.bb, x.nm, x.km⟩) }) : GrAt F W' g { D with bf := updC D.bf b (some ⟨S, T, x.bb, x.nm, x.km⟩) } := by
  refine ⟨fun n k hk => ⟨h n k ?_, (h1.own n k hk).2⟩, h1.sep, h1.cont⟩
  have aux : ∀ j y, updC D.bf b (some ⟨S, T, x.bb, x.nm, x.km⟩) j = some y → ∃ z, D.bf j = some z ∧ z.bb = y.bb ∧ z.nm = y.nm ∧ z.km = y.km := by
    intro j y hy
    by_cases e : j = b
    · subst e
      rw [updC_same] at hy
      cases hy
      exact ⟨x, hx, rfl, rfl, rfl⟩
    · rw [updC_other _ _ e] at hy
      exact ⟨y, hy, rfl, rfl, rfl⟩
  cases n with
  | bf j => obtain ⟨y, hy, hk⟩ := hk; obtain ⟨z, a, b1, b2, b3⟩ := aux j y hy; exact ⟨z, a, b1.trans hk⟩
  | nx j => obtain ⟨y, hy, hk⟩ := hk; obtain ⟨z, a, b1, b2, b3⟩ := aux j y hy; exact ⟨z, a, b2.trans hk⟩
  | bl j => obtain ⟨y, hy, hk⟩ := hk; obtain ⟨z, a, b1, b2, b3⟩ := aux j y hy; exact ⟨z, a, b3.trans hk⟩
  | g => exact hk
  | left => exact hk
  | bufs => exact hk
  | ch j => exact hk
  | on j => exact hk
  | ab j => exact hk
end
theorem isSome_upd {α : Type} {f : Int → Option α} {b j : Int} {v : α} (h : (f j).isSome = true) : (updC f b (some v) j).isSome = true := by
  by_cases e : j = b
  · subst e; rw [updC_same]; rfl
  · rw [updC_other _ _ e]; exact h
theorem Ga.Ok.freed {A : Ga} (h : A.Ok) {y b : Int} (hy : 0 ≤ y ∧ y < A.added) : (A.freed y b).Ok := by
  unfold Ga.freed
  cases hb : A.bf b with
  | none => exact h
  | some x =>
    refine ⟨h.big, fun i c hc => ?_, fun b' x' hx' => ?_⟩
    · obtain ⟨h1, h2, h3⟩ := h.chs i c hc
      exact ⟨h1, h2, isSome_upd h3⟩
    · by_cases e : b' = b
      · subst e
        have e1 := (updC_same A.bf b' (some (⟨insS y x.nx, delS y x.bl⟩ : Ba))).symm.trans hx'
        cases e1
        obtain ⟨h1, h2⟩ := h.nxs b' x hb
        refine ⟨fun z hz => ?_, fun z hz => h2 z (mem_del.1 hz).1⟩
        rcases mem_ins.1 hz with rfl | hz
        · exact hy
        · exact h1 z hz
      · exact h.nxs b' x' ((updC_other A.bf _ e).symm.trans hx')
theorem Ga.Ok.turn {A : Ga} (h : A.Ok) {y : Int} {c : Ca} (hc : A.ch y = some c) (S T : List Int) : ({ A with ch := updC A.ch y (some ⟨c.buf, S, T⟩) } : Ga).Ok := by
  refine ⟨h.big, fun i c' hc' => ?_, h.nxs⟩
  by_cases e : i = y
  · subst e
    have e1 := (updC_same A.ch i (some (⟨c.buf, S, T⟩ : Ca))).symm.trans hc'
    cases e1
    exact h.chs i c hc
  · exact h.chs i c' ((updC_other A.ch _ e).symm.trans hc')
theorem Ga.Ok.unhang {A : Ga} (h : A.Ok) (i y : Int) : (A.unhang i y).Ok := by
  unfold Ga.unhang
  cases hc : A.ch y with
  | none => exact h
  | some c =>
    simp only
    split
    · exact (h.turn hc _ _).freed (h.chs y c hc).1
    · exact h.turn hc _ _
theorem Ga.Ok.cut {A : Ga} (h : A.Ok) (i b : Int) : (A.cut i b).Ok := by
  have aux : ∀ j x, updC A.ch i none j = some x → A.ch j = some x := by
    intro j x hx
    by_cases e : j = i
    · subst e; rw [updC_same] at hx; cases hx
    · rwa [updC_other _ _ e] at hx
  unfold Ga.cut
  cases hb : A.bf b with
  | none => exact ⟨h.big, fun j c hc => h.chs j c (aux j c hc), h.nxs⟩
  | some x =>
    refine ⟨h.big, fun j c hc => ?_, fun b' x' hx' => ?_⟩
    · obtain ⟨h1, h2, h3⟩ := h.chs j c (aux j c hc)
      exact ⟨h1, h2, isSome_upd h3⟩
    · by_cases e : b' = b
      · subst e
        have e1 := (updC_same A.bf b' (some (⟨delS i x.nx, x.bl⟩ : Ba))).symm.trans hx'
        cases e1
        obtain ⟨h1, h2⟩ := h.nxs b' x hb
        exact ⟨fun z hz => h1 z (mem_del.1 hz).1, h2⟩
      · exact h.nxs b' x' ((updC_other A.bf _ e).symm.trans hx')
theorem all_open {P : Nat → Option Nat} {m : Nat} (h : ∀ j, j < m → ∃ b, P j = some b) : ((List.range m).filterMap P).length = m ∧ ∀ j, j < m → P j = some (((List.range m).filterMap P).getD j 0) ∧ cntP P j = j := by
  have hc : ∀ j, j ≤ m → cntP P j = j := by
    intro j
    induction j with
    | zero => intro _; rfl
    | succ j ih =>
      intro hj
      obtain ⟨b, hb⟩ := h j (by omega)
      rw [cnt_some hb, ih (by omega)]
  refine ⟨hc m (Nat.le_refl _), fun j hj => ?_⟩
  obtain ⟨b, hb⟩ := h j hj
  have := (open_at hj hb).1
  rw [hc j (by omega)] at this
  exact ⟨by rw [this]; exact hb, hc j (by omega)⟩
/-- Between two rounds of finish. -/
structure FnI (F : Nat → Prop) (w w5 : World) (q g : Nat) (D D2 : Gd) (i : Int) (c : Cx) (xb : Nat) (Z : Ga) (A : World) : Prop where
  b0 : A.heap[w.heap.size]? = some (.cells #[ptV g] 26 (0, 0))
  b1 : A.heap[w.heap.size + 1]? = some (.cells #[ptV c.cb] 56 (0, 0))
  o0 : A.heap[q]? = some (.cells #[ptV g] 26 (0, 0))
  o1 : A.heap[q + 1]? = some (.cells #[c.av] 23 (0, 0))
  cc : A.heap[c.cb]? = some (chO i c)
  av : A.ownsRow 0 3 1 c.av c.ab.length (Iy c.ab)
  sz : w5.heap.size ≤ A.heap.size
  on : Only F w A
  gr : ∃ Dk, GrAt (fun k => OwnC g D c k ∨ w5.heap.size + 2 ≤ k) A g Dk ∧ Dk.abs = Z ∧ Dk.abs.Ok ∧ (∀ y, (Dk.ch y).map (·.cb) = (D2.ch y).map (·.cb)) ∧ (Dk.bf c.buf).map (·.bb) = some xb
section
variable {F : Nat → Prop} {w w5 A B : World} {q g : Nat} {D D2 : Gd} {i : Int} {c : Cx} {xb : Nat} {Z Z' : Ga}
/-- Blocks of others turn, new ones come. -/
theorem FnI.others {S : Nat → Prop} (h : FnI F w w5 q g D D2 i c xb Z A) (hO : Only S A B) (hS : ∀ k, k < A.heap.size → S k → w5.heap.size ≤ k ∧ k < w5.heap.size + 2) (hq : q + 1 < w5.heap.size) (hw : w.heap.size + 1 < w5.heap.size) (hc : ∀ k, (k = c.cb ∨ c.av.ownBlock = some k) → k < w.heap.size) (hown : ∀ k, OwnC g D c k → k < w.heap.size) : FnI F w w5 q g D D2 i c xb Z B := by
  have keep : ∀ k, k < w5.heap.size → B.heap[k]? = A.heap[k]? := fun k hk => hO.block k (by have := h.sz; omega) (fun hs => by have := hS k (by have := h.sz; omega) hs; omega)
  refine ⟨(keep _ (by omega)).trans h.b0, (keep _ hw).trans h.b1, (keep _ (by omega)).trans h.o0, (keep _ hq).trans h.o1, (keep _ (by have := hc c.cb (.inl rfl); omega)).trans h.cc, row_same h.av (fun k hk => keep k (by have := hc k (.inr hk); omega)), Nat.le_trans h.sz hO.size, ?_, ?_⟩
  · exact h.on.trans (T := fun k => S k ∧ k < A.heap.size) (hO.mono (fun k hk hs => ⟨hs, hk⟩)) (fun k hs => .inr (by have := hS k hs.2 hs.1; omega))
  · obtain ⟨Dk, h1, h2⟩ := h.gr
    refine ⟨Dk, h1.only hO (fun k hk hlt hs => ?_), h2⟩
    have := hS k hlt hs
    rcases hk with hk | hk
    · have := hown k hk; omega
    · omega
/-- The graph steps on. -/
theorem FnI.move (h : FnI F w w5 q g D D2 i c xb Z A) {D' : Gd} (hO : Only (fun k => OwnC g D c k ∨ w5.heap.size + 2 ≤ k) A B) (hs : w5.heap.size + 2 ≤ A.heap.size) (hG : GrAt (Grown (fun k => OwnC g D c k ∨ w5.heap.size + 2 ≤ k) A) B g D') (hF : ∀ k, OwnC g D c k → F k)
    (hz : D'.abs = Z') (ok : D'.abs.Ok) (hp : ∀ y, (D'.ch y).map (·.cb) = (D2.ch y).map (·.cb)) (hx : (D'.bf c.buf).map (·.bb) = some xb) (hq0 : w.heap.size + 2 ≤ q) (hq : q + 1 < w5.heap.size) (hw : w.heap.size + 1 < w5.heap.size) (hc : ∀ k, (k = c.cb ∨ c.av.ownBlock = some k) → k < w.heap.size) (hown : ∀ k, OwnC g D c k → k < w.heap.size) :
    FnI F w w5 q g D D2 i c xb Z' B ∧ B.heap[w5.heap.size]? = A.heap[w5.heap.size]? ∧ B.heap[w5.heap.size + 1]? = A.heap[w5.heap.size + 1]? := by
  have keep : ∀ k, k < w5.heap.size + 2 → ¬ OwnC g D c k → B.heap[k]? = A.heap[k]? := fun k hk hn => hO.block k (by omega) (fun hs => hs.elim hn (fun h => by omega))
  have big : ∀ k, w.heap.size ≤ k → ¬ OwnC g D c k := fun k hk h' => by have := hown k h'; omega
  refine ⟨⟨(keep _ (by omega) (big _ (Nat.le_refl _))).trans h.b0, (keep _ (by omega) (big _ (by omega))).trans h.b1, ?_, ?_, (keep _ (by have := hc c.cb (.inl rfl); omega) (fun h' => h'.2.1 rfl)).trans h.cc, row_same h.av (fun k hk => keep k (by have := hc k (.inr hk); omega) (fun h' => h'.2.2.2 hk)), Nat.le_trans h.sz hO.size, ?_, D', hG.mono (fun k _ hk => ?_), hz, ok, hp, hx⟩, keep _ (by omega) (big _ (by omega)), keep _ (by omega) (big _ (by omega))⟩
  · exact (keep _ (by omega) (fun h' => absurd (hown q h') (by have := hq0; omega))).trans h.o0
  · exact (keep _ (by omega) (fun h' => absurd (hown (q + 1) h') (by have := hq0; omega))).trans h.o1
  · exact h.on.trans (T := fun k => OwnC g D c k ∨ w5.heap.size + 2 ≤ k) hO (fun k hk => hk.elim (fun h' => .inl (hF k h')) (fun h' => .inr (by omega)))
  · rcases hk with hk | hk
    · exact hk
    · exact .inr (by omega)
end
end Go.Proofs.Ythmbhcmicebcpaa
