/-
  A graph of changes, as it lies in memory: its steps.
-/
import Derived.Test.YthmbhcmicebcpaaDpMem
namespace Go.Proofs.Ythmbhcmicebcpaa
open Go Go.Proofs Go.RowKit Go.Shelf
open Go.ChangeMaps (setBlock)
section
variable {F S : Nat → Prop} {W W' : World} {g : Nat} {D : Gd}
theorem GrAt.new (h : GrAt F W g D) {k : Nat} (hk : W.heap.size ≤ k) (n : Nm) : ¬ Own g D n k := fun ho => by have := h.lt ho; omega
/-- One buffer turns. -/
theorem GrAt.bfTurn (h : GrAt F W g D) {i : Int} {c c' : Bx} (hi : D.bf i = some c) (hO : Only (fun k => k = c.bb ∨ c.nm = some k ∨ c.km = some k) W W') (hcb : c'.bb = c.bb)
    (hnm : ∀ k, c'.nm = some k → c.nm = some k ∨ (W.heap.size ≤ k ∧ k < W'.heap.size)) (hkm : ∀ k, c'.km = some k → c.km = some k ∨ (W.heap.size ≤ k ∧ k < W'.heap.size)) (hu : ∀ k, c'.nm = some k → c'.km = some k → k < W.heap.size)
    (h1 : W'.heap[c.bb]? = some (bfO c')) (h2 : StAt W' c'.nm c'.nx) (h3 : StAt W' c'.km c'.bl) :
    GrAt (Grown F W) W' g { D with bf := updC D.bf i (some c') } := by
  have keep : ∀ n, (n ≠ .bf i ∧ n ≠ .nx i ∧ n ≠ .bl i) → (∀ k, Own g D n k → ¬ (k = c.bb ∨ c.nm = some k ∨ c.km = some k)) := by
    rintro n ⟨n1, n2, n3⟩ k hk (hs | hs | hs)
    · exact n1 (h.sep _ _ k hk ⟨c, hi, hs.symm⟩)
    · exact n2 (h.sep _ _ k hk ⟨c, hi, hs⟩)
    · exact n3 (h.sep _ _ k hk ⟨c, hi, hs⟩)
  refine h.step hO (fun n k => ((n = .nx i ∧ c'.nm = some k) ∨ (n = .bl i ∧ c'.km = some k)) ∧ W.heap.size ≤ k ∧ k < W'.heap.size) (fun n k hk => ⟨.inr hk.2.1, hk.2.2, h.new hk.2.1⟩) ?_ (fun k hk => .inl hk) ?_ ?_
  · rintro n n' k ⟨h1 | h1, hk, _⟩ ⟨h2 | h2, _, _⟩
    · exact h1.1.trans h2.1.symm
    · have := hu k h1.2 h2.2; omega
    · have := hu k h2.2 h1.2; omega
    · exact h1.1.trans h2.1.symm
  · intro n k hk
    cases n with
    | bf j =>
      by_cases e : j = i
      · subst e
        obtain ⟨x, hx, hk⟩ := hk
        have e1 := (updC_same D.bf j (some c')).symm.trans hx
        cases e1
        exact .inl ⟨c, hi, hcb ▸ hk⟩
      · obtain ⟨x, hx, hk⟩ := hk
        exact .inl ⟨x, (updC_other D.bf (some c') e).symm.trans hx, hk⟩
    | nx j =>
      by_cases e : j = i
      · subst e
        obtain ⟨x, hx, hk⟩ := hk
        have e1 := (updC_same D.bf j (some c')).symm.trans hx
        cases e1
        rcases hnm k hk with q | q
        · exact .inl ⟨c, hi, q⟩
        · exact .inr ⟨.inl ⟨rfl, hk⟩, q⟩
      · obtain ⟨x, hx, hk⟩ := hk
        exact .inl ⟨x, (updC_other D.bf (some c') e).symm.trans hx, hk⟩
    | bl j =>
      by_cases e : j = i
      · subst e
        obtain ⟨x, hx, hk⟩ := hk
        have e1 := (updC_same D.bf j (some c')).symm.trans hx
        cases e1
        rcases hkm k hk with q | q
        · exact .inl ⟨c, hi, q⟩
        · exact .inr ⟨.inr ⟨rfl, hk⟩, q⟩
      · obtain ⟨x, hx, hk⟩ := hk
        exact .inl ⟨x, (updC_other D.bf (some c') e).symm.trans hx, hk⟩
    | g => exact .inl hk
    | left => exact .inl hk
    | bufs => exact .inl hk
    | ch b => exact .inl hk
    | on b => exact .inl hk
    | ab b => exact .inl hk
  · intro n
    have hn := h.cont n
    cases n with
    | bf j =>
      by_cases e : j = i
      · subst e
        refine .inl (fun x hx => ?_)
        have e1 := (updC_same D.bf j (some c')).symm.trans hx
        cases e1
        rw [hcb]
        exact h1
      · refine .inr ⟨⟨fun x hx => hn x ((updC_other D.bf (some c') e).symm.trans hx), keep _ ⟨fun q => e (by cases q; rfl), fun q => (by cases q), fun q => (by cases q)⟩⟩, fun k hk => ?_⟩
        obtain ⟨x, hx, hk⟩ := hk
        exact ⟨x, (updC_other D.bf (some c') e).symm.trans hx, hk⟩
    | nx j =>
      by_cases e : j = i
      · subst e
        refine .inl (fun x hx => ?_)
        have e1 := (updC_same D.bf j (some c')).symm.trans hx
        cases e1
        exact h2
      · refine .inr ⟨⟨fun x hx => hn x ((updC_other D.bf (some c') e).symm.trans hx), keep _ ⟨fun q => (by cases q), fun q => e (by cases q; rfl), fun q => (by cases q)⟩⟩, fun k hk => ?_⟩
        obtain ⟨x, hx, hk⟩ := hk
        exact ⟨x, (updC_other D.bf (some c') e).symm.trans hx, hk⟩
    | bl j =>
      by_cases e : j = i
      · subst e
        refine .inl (fun x hx => ?_)
        have e1 := (updC_same D.bf j (some c')).symm.trans hx
        cases e1
        exact h3
      · refine .inr ⟨⟨fun x hx => hn x ((updC_other D.bf (some c') e).symm.trans hx), keep _ ⟨fun q => (by cases q), fun q => (by cases q), fun q => e (by cases q; rfl)⟩⟩, fun k hk => ?_⟩
        obtain ⟨x, hx, hk⟩ := hk
        exact ⟨x, (updC_other D.bf (some c') e).symm.trans hx, hk⟩
    | bufs => exact .inr ⟨⟨MapAt.say (W := W) hn (buf_turn hi hcb), keep _ (by simp)⟩, fun k hk => hk⟩
    | g => exact .inr ⟨⟨hn, keep _ (by simp)⟩, fun k hk => hk⟩
    | left => exact .inr ⟨⟨hn, keep _ (by simp)⟩, fun k hk => hk⟩
    | ch b => exact .inr ⟨⟨hn, keep _ (by simp)⟩, fun k hk => hk⟩
    | on b => exact .inr ⟨⟨hn, keep _ (by simp)⟩, fun k hk => hk⟩
    | ab b => exact .inr ⟨⟨hn, keep _ (by simp)⟩, fun k hk => hk⟩
/-- One more. -/
theorem GrAt.chAdd (h : GrAt F W g D) {i : Int} {c : Cx} {l : Nat} (hi : D.ch i = none) (hl : D.lm = some l) (hO : Only (fun k => k = l) W W') (hm : MAt W' 3 l (D.nl + 1) (leftF (updC D.ch i (some c))))
    (h1 : W'.heap[c.cb]? = some (chO i c)) (h2 : StAt W' c.om c.on) (h3 : W'.ownsRow 0 3 1 c.av c.ab.length (Iy c.ab)) (hlt : ∀ k, (c.cb = k ∨ c.om = some k ∨ c.av.ownBlock = some k) → k < W'.heap.size ∧ ∀ n, ¬ Own g D n k)
    (u1 : ∀ k, c.cb = k → ¬ c.om = some k) (u2 : ∀ k, c.cb = k → ¬ c.av.ownBlock = some k) (u3 : ∀ k, c.om = some k → ¬ c.av.ownBlock = some k) :
    GrAt (fun k => F k ∨ c.cb = k ∨ c.om = some k ∨ c.av.ownBlock = some k) W' g { D with ch := updC D.ch i (some c), nl := D.nl + 1 } := by
  have keep : ∀ n, n ≠ .left → (∀ k, Own g D n k → ¬ k = l) := fun n hn k hk e => hn (h.sep _ _ k hk (by subst e; exact hl))
  refine h.step hO (fun n k => (n = .ch i ∧ c.cb = k) ∨ (n = .on i ∧ c.om = some k) ∨ (n = .ab i ∧ c.av.ownBlock = some k)) (fun n k hk => ?_) ?_ (fun k hk => .inl hk) ?_ ?_
  · have hb : c.cb = k ∨ c.om = some k ∨ c.av.ownBlock = some k := hk.elim (fun q => .inl q.2) (fun q => q.elim (fun q => .inr (.inl q.2)) (fun q => .inr (.inr q.2)))
    exact ⟨.inr hb, hlt k hb⟩
  · rintro n n' k (⟨rfl, a⟩ | ⟨rfl, a⟩ | ⟨rfl, a⟩) (⟨rfl, b⟩ | ⟨rfl, b⟩ | ⟨rfl, b⟩)
    · rfl
    · exact absurd b (u1 k a)
    · exact absurd b (u2 k a)
    · exact absurd a (u1 k b)
    · rfl
    · exact absurd b (u3 k a)
    · exact absurd a (u2 k b)
    · exact absurd a (u3 k b)
    · rfl
  · intro n k hk
    cases n with
    | ch j =>
      by_cases e : j = i
      · subst e
        obtain ⟨x, hx, hk⟩ := hk
        have e1 := (updC_same D.ch j (some c)).symm.trans hx
        cases e1
        exact .inr (.inl ⟨rfl, hk⟩)
      · obtain ⟨x, hx, hk⟩ := hk
        exact .inl ⟨x, (updC_other D.ch (some c) e).symm.trans hx, hk⟩
    | on j =>
      by_cases e : j = i
      · subst e
        obtain ⟨x, hx, hk⟩ := hk
        have e1 := (updC_same D.ch j (some c)).symm.trans hx
        cases e1
        exact .inr (.inr (.inl ⟨rfl, hk⟩))
      · obtain ⟨x, hx, hk⟩ := hk
        exact .inl ⟨x, (updC_other D.ch (some c) e).symm.trans hx, hk⟩
    | ab j =>
      by_cases e : j = i
      · subst e
        obtain ⟨x, hx, hk⟩ := hk
        have e1 := (updC_same D.ch j (some c)).symm.trans hx
        cases e1
        exact .inr (.inr (.inr ⟨rfl, hk⟩))
      · obtain ⟨x, hx, hk⟩ := hk
        exact .inl ⟨x, (updC_other D.ch (some c) e).symm.trans hx, hk⟩
    | g => exact .inl hk
    | bufs => exact .inl hk
    | bf b => exact .inl hk
    | nx b => exact .inl hk
    | bl b => exact .inl hk
    | left => exact .inl hk
  · intro n
    have hn := h.cont n
    cases n with
    | ch j =>
      by_cases e : j = i
      · subst e
        refine .inl (fun x hx => ?_)
        have e1 := (updC_same D.ch j (some c)).symm.trans hx
        cases e1
        exact h1
      · refine .inr ⟨⟨fun x hx => hn x ((updC_other D.ch (some c) e).symm.trans hx), keep _ (fun q => (by cases q))⟩, fun k hk => ?_⟩
        obtain ⟨x, hx, hk⟩ := hk
        exact ⟨x, (updC_other D.ch (some c) e).symm.trans hx, hk⟩
    | on j =>
      by_cases e : j = i
      · subst e
        refine .inl (fun x hx => ?_)
        have e1 := (updC_same D.ch j (some c)).symm.trans hx
        cases e1
        exact h2
      · refine .inr ⟨⟨fun x hx => hn x ((updC_other D.ch (some c) e).symm.trans hx), keep _ (fun q => (by cases q))⟩, fun k hk => ?_⟩
        obtain ⟨x, hx, hk⟩ := hk
        exact ⟨x, (updC_other D.ch (some c) e).symm.trans hx, hk⟩
    | ab j =>
      by_cases e : j = i
      · subst e
        refine .inl (fun x hx => ?_)
        have e1 := (updC_same D.ch j (some c)).symm.trans hx
        cases e1
        exact h3
      · refine .inr ⟨⟨fun x hx => hn x ((updC_other D.ch (some c) e).symm.trans hx), keep _ (fun q => (by cases q))⟩, fun k hk => ?_⟩
        obtain ⟨x, hx, hk⟩ := hk
        exact ⟨x, (updC_other D.ch (some c) e).symm.trans hx, hk⟩
    | left => exact .inl (by show MapAt W' D.lm _ _; rw [hl]; exact hm)
    | g => exact .inr ⟨⟨hn, keep _ (fun q => (by cases q))⟩, fun k hk => hk⟩
    | bufs => exact .inr ⟨⟨hn, keep _ (fun q => (by cases q))⟩, fun k hk => hk⟩
    | bf b => exact .inr ⟨⟨hn, keep _ (fun q => (by cases q))⟩, fun k hk => hk⟩
    | nx b => exact .inr ⟨⟨hn, keep _ (fun q => (by cases q))⟩, fun k hk => hk⟩
    | bl b => exact .inr ⟨⟨hn, keep _ (fun q => (by cases q))⟩, fun k hk => hk⟩
/-- One goes. -/
theorem GrAt.chDel (h : GrAt F W g D) {i : Int} {l : Nat} (hl : D.lm = some l) (hO : Only (fun k => k = l) W W') (hm : MAt W' 3 l (D.nl - 1) (leftF (updC D.ch i none))) :
    GrAt F W' g { D with ch := updC D.ch i none, nl := D.nl - 1 } := by
  have keep : ∀ n, n ≠ .left → (∀ k, Own g D n k → ¬ k = l) := fun n hn k hk e => hn (h.sep _ _ k hk (by subst e; exact hl))
  have sub : ∀ j x, updC D.ch i none j = some x → D.ch j = some x := by
    intro j x hx
    by_cases e : j = i
    · subst e
      rw [updC_same] at hx
      cases hx
    · rwa [updC_other _ _ e] at hx
  refine h.step hO (fun _ _ => False) (fun n k hk => hk.elim) (fun _ _ _ h1 _ => h1.elim) (fun k hk => hk) ?_ ?_
  · intro n k hk
    cases n with
    | ch j => obtain ⟨x, hx, hk⟩ := hk; exact .inl ⟨x, sub j x hx, hk⟩
    | on j => obtain ⟨x, hx, hk⟩ := hk; exact .inl ⟨x, sub j x hx, hk⟩
    | ab j => obtain ⟨x, hx, hk⟩ := hk; exact .inl ⟨x, sub j x hx, hk⟩
    | g => exact .inl hk
    | bufs => exact .inl hk
    | bf b => exact .inl hk
    | nx b => exact .inl hk
    | bl b => exact .inl hk
    | left => exact .inl hk
  · intro n
    have hn := h.cont n
    cases n with
    | ch j => exact .inr ⟨⟨fun x hx => hn x (sub j x hx), keep _ (fun q => (by cases q))⟩, fun k hk => (by obtain ⟨x, hx, hk⟩ := hk; exact ⟨x, sub j x hx, hk⟩)⟩
    | on j => exact .inr ⟨⟨fun x hx => hn x (sub j x hx), keep _ (fun q => (by cases q))⟩, fun k hk => (by obtain ⟨x, hx, hk⟩ := hk; exact ⟨x, sub j x hx, hk⟩)⟩
    | ab j => exact .inr ⟨⟨fun x hx => hn x (sub j x hx), keep _ (fun q => (by cases q))⟩, fun k hk => (by obtain ⟨x, hx, hk⟩ := hk; exact ⟨x, sub j x hx, hk⟩)⟩
    | left => exact .inl (by show MapAt W' D.lm _ _; rw [hl]; exact hm)
    | g => exact .inr ⟨⟨hn, keep _ (fun q => (by cases q))⟩, fun k hk => hk⟩
    | bufs => exact .inr ⟨⟨hn, keep _ (fun q => (by cases q))⟩, fun k hk => hk⟩
    | bf b => exact .inr ⟨⟨hn, keep _ (fun q => (by cases q))⟩, fun k hk => hk⟩
    | nx b => exact .inr ⟨⟨hn, keep _ (fun q => (by cases q))⟩, fun k hk => hk⟩
    | bl b => exact .inr ⟨⟨hn, keep _ (fun q => (by cases q))⟩, fun k hk => hk⟩
/-- One more. -/
theorem GrAt.bfAdd (h : GrAt F W g D) {i : Int} {c : Bx} {l : Nat} (hi : D.bf i = none) (hl : D.bm = some l) (hO : Only (fun k => k = l) W W') (hm : MAt W' 3 l (D.nb + 1) (bufF (updC D.bf i (some c))))
    (h1 : W'.heap[c.bb]? = some (bfO c)) (h2 : StAt W' c.nm c.nx) (h3 : StAt W' c.km c.bl) (hlt : ∀ k, (c.bb = k ∨ c.nm = some k ∨ c.km = some k) → k < W'.heap.size ∧ ∀ n, ¬ Own g D n k)
    (u1 : ∀ k, c.bb = k → ¬ c.nm = some k) (u2 : ∀ k, c.bb = k → ¬ c.km = some k) (u3 : ∀ k, c.nm = some k → ¬ c.km = some k) :
    GrAt (fun k => F k ∨ c.bb = k ∨ c.nm = some k ∨ c.km = some k) W' g { D with bf := updC D.bf i (some c), nb := D.nb + 1 } := by
  have keep : ∀ n, n ≠ .bufs → (∀ k, Own g D n k → ¬ k = l) := fun n hn k hk e => hn (h.sep _ _ k hk (by subst e; exact hl))
  refine h.step hO (fun n k => (n = .bf i ∧ c.bb = k) ∨ (n = .nx i ∧ c.nm = some k) ∨ (n = .bl i ∧ c.km = some k)) (fun n k hk => ?_) ?_ (fun k hk => .inl hk) ?_ ?_
  · have hb : c.bb = k ∨ c.nm = some k ∨ c.km = some k := hk.elim (fun q => .inl q.2) (fun q => q.elim (fun q => .inr (.inl q.2)) (fun q => .inr (.inr q.2)))
    exact ⟨.inr hb, hlt k hb⟩
  · rintro n n' k (⟨rfl, a⟩ | ⟨rfl, a⟩ | ⟨rfl, a⟩) (⟨rfl, b⟩ | ⟨rfl, b⟩ | ⟨rfl, b⟩)
    · rfl
    · exact absurd b (u1 k a)
    · exact absurd b (u2 k a)
    · exact absurd a (u1 k b)
    · rfl
    · exact absurd b (u3 k a)
    · exact absurd a (u2 k b)
    · exact absurd a (u3 k b)
    · rfl
  · intro n k hk
    cases n with
    | bf j =>
      by_cases e : j = i
      · subst e
        obtain ⟨x, hx, hk⟩ := hk
        have e1 := (updC_same D.bf j (some c)).symm.trans hx
        cases e1
        exact .inr (.inl ⟨rfl, hk⟩)
      · obtain ⟨x, hx, hk⟩ := hk
        exact .inl ⟨x, (updC_other D.bf (some c) e).symm.trans hx, hk⟩
    | nx j =>
      by_cases e : j = i
      · subst e
        obtain ⟨x, hx, hk⟩ := hk
        have e1 := (updC_same D.bf j (some c)).symm.trans hx
        cases e1
        exact .inr (.inr (.inl ⟨rfl, hk⟩))
      · obtain ⟨x, hx, hk⟩ := hk
        exact .inl ⟨x, (updC_other D.bf (some c) e).symm.trans hx, hk⟩
    | bl j =>
      by_cases e : j = i
      · subst e
        obtain ⟨x, hx, hk⟩ := hk
        have e1 := (updC_same D.bf j (some c)).symm.trans hx
        cases e1
        exact .inr (.inr (.inr ⟨rfl, hk⟩))
      · obtain ⟨x, hx, hk⟩ := hk
        exact .inl ⟨x, (updC_other D.bf (some c) e).symm.trans hx, hk⟩
    | g => exact .inl hk
    | left => exact .inl hk
    | ch b => exact .inl hk
    | on b => exact .inl hk
    | ab b => exact .inl hk
    | bufs => exact .inl hk
  · intro n
    have hn := h.cont n
    cases n with
    | bf j =>
      by_cases e : j = i
      · subst e
        refine .inl (fun x hx => ?_)
        have e1 := (updC_same D.bf j (some c)).symm.trans hx
        cases e1
        exact h1
      · refine .inr ⟨⟨fun x hx => hn x ((updC_other D.bf (some c) e).symm.trans hx), keep _ (fun q => (by cases q))⟩, fun k hk => ?_⟩
        obtain ⟨x, hx, hk⟩ := hk
        exact ⟨x, (updC_other D.bf (some c) e).symm.trans hx, hk⟩
    | nx j =>
      by_cases e : j = i
      · subst e
        refine .inl (fun x hx => ?_)
        have e1 := (updC_same D.bf j (some c)).symm.trans hx
        cases e1
        exact h2
      · refine .inr ⟨⟨fun x hx => hn x ((updC_other D.bf (some c) e).symm.trans hx), keep _ (fun q => (by cases q))⟩, fun k hk => ?_⟩
        obtain ⟨x, hx, hk⟩ := hk
        exact ⟨x, (updC_other D.bf (some c) e).symm.trans hx, hk⟩
    | bl j =>
      by_cases e : j = i
      · subst e
        refine .inl (fun x hx => ?_)
        have e1 := (updC_same D.bf j (some c)).symm.trans hx
        cases e1
        exact h3
      · refine .inr ⟨⟨fun x hx => hn x ((updC_other D.bf (some c) e).symm.trans hx), keep _ (fun q => (by cases q))⟩, fun k hk => ?_⟩
        obtain ⟨x, hx, hk⟩ := hk
        exact ⟨x, (updC_other D.bf (some c) e).symm.trans hx, hk⟩
    | bufs => exact .inl (by show MapAt W' D.bm _ _; rw [hl]; exact hm)
    | g => exact .inr ⟨⟨hn, keep _ (fun q => (by cases q))⟩, fun k hk => hk⟩
    | left => exact .inr ⟨⟨hn, keep _ (fun q => (by cases q))⟩, fun k hk => hk⟩
    | ch b => exact .inr ⟨⟨hn, keep _ (fun q => (by cases q))⟩, fun k hk => hk⟩
    | on b => exact .inr ⟨⟨hn, keep _ (fun q => (by cases q))⟩, fun k hk => hk⟩
    | ab b => exact .inr ⟨⟨hn, keep _ (fun q => (by cases q))⟩, fun k hk => hk⟩
/-- One goes. -/
theorem GrAt.bfDel (h : GrAt F W g D) {i : Int} {l : Nat} (hl : D.bm = some l) (hO : Only (fun k => k = l) W W') (hm : MAt W' 3 l (D.nb - 1) (bufF (updC D.bf i none))) :
    GrAt F W' g { D with bf := updC D.bf i none, nb := D.nb - 1 } := by
  have keep : ∀ n, n ≠ .bufs → (∀ k, Own g D n k → ¬ k = l) := fun n hn k hk e => hn (h.sep _ _ k hk (by subst e; exact hl))
  have sub : ∀ j x, updC D.bf i none j = some x → D.bf j = some x := by
    intro j x hx
    by_cases e : j = i
    · subst e
      rw [updC_same] at hx
      cases hx
    · rwa [updC_other _ _ e] at hx
  refine h.step hO (fun _ _ => False) (fun n k hk => hk.elim) (fun _ _ _ h1 _ => h1.elim) (fun k hk => hk) ?_ ?_
  · intro n k hk
    cases n with
    | bf j => obtain ⟨x, hx, hk⟩ := hk; exact .inl ⟨x, sub j x hx, hk⟩
    | nx j => obtain ⟨x, hx, hk⟩ := hk; exact .inl ⟨x, sub j x hx, hk⟩
    | bl j => obtain ⟨x, hx, hk⟩ := hk; exact .inl ⟨x, sub j x hx, hk⟩
    | g => exact .inl hk
    | left => exact .inl hk
    | ch b => exact .inl hk
    | on b => exact .inl hk
    | ab b => exact .inl hk
    | bufs => exact .inl hk
  · intro n
    have hn := h.cont n
    cases n with
    | bf j => exact .inr ⟨⟨fun x hx => hn x (sub j x hx), keep _ (fun q => (by cases q))⟩, fun k hk => (by obtain ⟨x, hx, hk⟩ := hk; exact ⟨x, sub j x hx, hk⟩)⟩
    | nx j => exact .inr ⟨⟨fun x hx => hn x (sub j x hx), keep _ (fun q => (by cases q))⟩, fun k hk => (by obtain ⟨x, hx, hk⟩ := hk; exact ⟨x, sub j x hx, hk⟩)⟩
    | bl j => exact .inr ⟨⟨fun x hx => hn x (sub j x hx), keep _ (fun q => (by cases q))⟩, fun k hk => (by obtain ⟨x, hx, hk⟩ := hk; exact ⟨x, sub j x hx, hk⟩)⟩
    | bufs => exact .inl (by show MapAt W' D.bm _ _; rw [hl]; exact hm)
    | g => exact .inr ⟨⟨hn, keep _ (fun q => (by cases q))⟩, fun k hk => hk⟩
    | left => exact .inr ⟨⟨hn, keep _ (fun q => (by cases q))⟩, fun k hk => hk⟩
    | ch b => exact .inr ⟨⟨hn, keep _ (fun q => (by cases q))⟩, fun k hk => hk⟩
    | on b => exact .inr ⟨⟨hn, keep _ (fun q => (by cases q))⟩, fun k hk => hk⟩
    | ab b => exact .inr ⟨⟨hn, keep _ (fun q => (by cases q))⟩, fun k hk => hk⟩
/-- The two maps are made. -/
theorem GrAt.made (h : GrAt F W g D) {l b : Nat} (hl : D.lm = none) (hb : D.bm = none) (hO : Only (fun k => k = g) W W') (hlb : l ≠ b) (l1 : W.heap.size ≤ l ∧ l < W'.heap.size) (b1 : W.heap.size ≤ b ∧ b < W'.heap.size)
    (hg : W'.heap[g]? = some (.cells #[.int .i64 (D.added : Nat), .map (some l), .map (some b)] 60 (0, 0))) (m1 : MAt W' 3 l 0 (fun _ => none)) (m2 : MAt W' 3 b 0 (fun _ => none)) :
    GrAt (Grown F W) W' g { D with lm := some l, bm := some b } := by
  have keep : ∀ n, n ≠ .g → (∀ k, Own g D n k → ¬ k = g) := fun n hn k hk e => hn (h.sep _ _ k hk e)
  have c1 : D.nl = 0 ∧ ∀ q, leftF D.ch q = none := by have := h.cont .left; unfold Cont at this; rw [hl] at this; exact this
  have c2 : D.nb = 0 ∧ ∀ q, bufF D.bf q = none := by have := h.cont .bufs; unfold Cont at this; rw [hb] at this; exact this
  refine h.step hO (fun n k => (n = .left ∧ k = l) ∨ (n = .bufs ∧ k = b)) ?_ ?_ (fun k hk => .inl hk) ?_ ?_
  · rintro n k (⟨_, rfl⟩ | ⟨_, rfl⟩)
    · exact ⟨.inr l1.1, l1.2, h.new l1.1⟩
    · exact ⟨.inr b1.1, b1.2, h.new b1.1⟩
  · rintro n n' k (⟨rfl, rfl⟩ | ⟨rfl, rfl⟩) (⟨rfl, e⟩ | ⟨rfl, e⟩)
    · rfl
    · exact absurd e hlb
    · exact absurd e.symm hlb
    · rfl
  · intro n k hk
    cases n with
    | left => exact .inr (.inl ⟨rfl, (Option.some.inj hk).symm⟩)
    | bufs => exact .inr (.inr ⟨rfl, (Option.some.inj hk).symm⟩)
    | g => exact .inl hk
    | ch b => exact .inl hk
    | on b => exact .inl hk
    | ab b => exact .inl hk
    | bf b => exact .inl hk
    | nx b => exact .inl hk
    | bl b => exact .inl hk
  · intro n
    have hn := h.cont n
    cases n with
    | left => exact .inl (by show MAt W' 3 l D.nl (leftF D.ch); rw [c1.1]; exact m1.say (fun _ q _ => (c1.2 q).symm))
    | bufs => exact .inl (by show MAt W' 3 b D.nb (bufF D.bf); rw [c2.1]; exact m2.say (fun _ q _ => (c2.2 q).symm))
    | g => exact .inl hg
    | ch b => exact .inr ⟨⟨hn, keep _ (fun q => (by cases q))⟩, fun k hk => hk⟩
    | on b => exact .inr ⟨⟨hn, keep _ (fun q => (by cases q))⟩, fun k hk => hk⟩
    | ab b => exact .inr ⟨⟨hn, keep _ (fun q => (by cases q))⟩, fun k hk => hk⟩
    | bf b => exact .inr ⟨⟨hn, keep _ (fun q => (by cases q))⟩, fun k hk => hk⟩
    | nx b => exact .inr ⟨⟨hn, keep _ (fun q => (by cases q))⟩, fun k hk => hk⟩
    | bl b => exact .inr ⟨⟨hn, keep _ (fun q => (by cases q))⟩, fun k hk => hk⟩
/-- The graph's own block turns. -/
theorem GrAt.counted (h : GrAt F W g D) {a : Nat} (hO : Only (fun k => k = g) W W') (hg : W'.heap[g]? = some (.cells #[.int .i64 (a : Nat), .map D.lm, .map D.bm] 60 (0, 0))) : GrAt F W' g { D with added := a } := by
  have keep : ∀ n, n ≠ .g → (∀ k, Own g D n k → ¬ k = g) := fun n hn k hk e => hn (h.sep _ _ k hk e)
  refine h.step hO (fun _ _ => False) (fun n k hk => hk.elim) (fun _ _ _ h1 _ => h1.elim) (fun k hk => hk) (fun n k hk => .inl (by cases n <;> exact hk)) ?_
  intro n
  have hn := h.cont n
  cases n with
  | g => exact .inl hg
  | left => exact .inr ⟨⟨hn, keep _ (fun q => (by cases q))⟩, fun k hk => hk⟩
  | bufs => exact .inr ⟨⟨hn, keep _ (fun q => (by cases q))⟩, fun k hk => hk⟩
  | ch b => exact .inr ⟨⟨hn, keep _ (fun q => (by cases q))⟩, fun k hk => hk⟩
  | on b => exact .inr ⟨⟨hn, keep _ (fun q => (by cases q))⟩, fun k hk => hk⟩
  | ab b => exact .inr ⟨⟨hn, keep _ (fun q => (by cases q))⟩, fun k hk => hk⟩
  | bf b => exact .inr ⟨⟨hn, keep _ (fun q => (by cases q))⟩, fun k hk => hk⟩
  | nx b => exact .inr ⟨⟨hn, keep _ (fun q => (by cases q))⟩, fun k hk => hk⟩
  | bl b => exact .inr ⟨⟨hn, keep _ (fun q => (by cases q))⟩, fun k hk => hk⟩
end
end Go.Proofs.Ythmbhcmicebcpaa
