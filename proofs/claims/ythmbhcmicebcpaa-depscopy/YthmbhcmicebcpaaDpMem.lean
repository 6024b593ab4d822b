/-
  A graph of changes, as it lies in memory.
-/
import Derived.Test.YthmbhcmicebcpaaDpSet
namespace Go.Proofs.Ythmbhcmicebcpaa
open Go Go.Proofs Go.RowKit Go.Shelf
open Go.ChangeMaps (setBlock)
abbrev ptV (b : Nat) : Value := .pointer (some ⟨b, 0, none⟩)
/-- A change that is not done: its buffer, what it hangs on, what hangs on it, and where it lies. -/
structure Cx where
  buf : Int
  on : List Int
  ab : List Int
  cb : Nat
  om : Option Nat
  av : Value
/-- A buffer's changes, and where they lie. -/
structure Bx where
  nx : List Int
  bl : List Int
  bb : Nat
  nm : Option Nat
  km : Option Nat
structure Gd where
  added : Nat
  lm : Option Nat
  bm : Option Nat
  ch : Int → Option Cx
  bf : Int → Option Bx
  nl : Nat
  nb : Nat
inductive Nm where
  | g | left | bufs
  | ch (i : Int) | on (i : Int) | ab (i : Int)
  | bf (b : Int) | nx (b : Int) | bl (b : Int)
def Own (g : Nat) (D : Gd) : Nm → Nat → Prop
  | .g, k => k = g
  | .left, k => D.lm = some k
  | .bufs, k => D.bm = some k
  | .ch i, k => ∃ c, D.ch i = some c ∧ c.cb = k
  | .on i, k => ∃ c, D.ch i = some c ∧ c.om = some k
  | .ab i, k => ∃ c, D.ch i = some c ∧ c.av.ownBlock = some k
  | .bf b, k => ∃ x, D.bf b = some x ∧ x.bb = k
  | .nx b, k => ∃ x, D.bf b = some x ∧ x.nm = some k
  | .bl b, k => ∃ x, D.bf b = some x ∧ x.km = some k
def MapAt (W : World) (m : Option Nat) (n : Nat) (f : Lit → Option Value) : Prop := match m with
  | none => n = 0 ∧ ∀ l, f l = none
  | some b => MAt W 3 b n f
def leftF (ch : Int → Option Cx) : Lit → Option Value := fun l => match l with
  | .int .i64 i => (ch i).map (fun c => ptV c.cb)
  | _ => none
def bufF (bf : Int → Option Bx) : Lit → Option Value := fun l => match l with
  | .int .i64 i => (bf i).map (fun x => ptV x.bb)
  | _ => none
def chO (i : Int) (c : Cx) : Obj := .cells #[.int .i64 i, .int .i64 c.buf, .map c.om, c.av] 77 (0, 0)
def bfO (x : Bx) : Obj := .cells #[.map x.nm, .map x.km] 66 (0, 0)
def Cont (g : Nat) (D : Gd) (W : World) : Nm → Prop
  | .g => W.heap[g]? = some (.cells #[.int .i64 (D.added : Nat), .map D.lm, .map D.bm] 60 (0, 0))
  | .left => MapAt W D.lm D.nl (leftF D.ch)
  | .bufs => MapAt W D.bm D.nb (bufF D.bf)
  | .ch i => ∀ c, D.ch i = some c → W.heap[c.cb]? = some (chO i c)
  | .on i => ∀ c, D.ch i = some c → StAt W c.om c.on
  | .ab i => ∀ c, D.ch i = some c → W.ownsRow 0 3 1 c.av c.ab.length (Iy c.ab)
  | .bf b => ∀ x, D.bf b = some x → W.heap[x.bb]? = some (bfO x)
  | .nx b => ∀ x, D.bf b = some x → StAt W x.nm x.nx
  | .bl b => ∀ x, D.bf b = some x → StAt W x.km x.bl
structure GrAt (F : Nat → Prop) (W : World) (g : Nat) (D : Gd) : Prop where
  own : ∀ n k, Own g D n k → F k ∧ k < W.heap.size
  sep : ∀ n n' k, Own g D n k → Own g D n' k → n = n'
  cont : ∀ n, Cont g D W n
theorem row_same {W W' : World} {v : Value} {n : Nat} {xs : List Value} (h : W.ownsRow 0 3 1 v n xs) (hk : ∀ k, v.ownBlock = some k → W'.heap[k]? = W.heap[k]?) : W'.ownsRow 0 3 1 v n xs := by
  refine ⟨h.1, ?_⟩
  rcases h.2 with h2 | ⟨g', cap', cur, hv, hg, hh, hr⟩
  · exact .inl h2
  · subst hv
    exact .inr ⟨g', cap', cur, rfl, hg, (hk g' rfl).trans hh, hr⟩
theorem Cont.kept {g : Nat} {D : Gd} {W W' : World} {n : Nm} (h : Cont g D W n) (hk : ∀ k, Own g D n k → W'.heap[k]? = W.heap[k]?) : Cont g D W' n := by
  cases n with
  | g => exact (hk g rfl).trans h
  | left =>
    unfold Cont at h ⊢
    cases hm : D.lm with
    | none => rw [hm] at h; exact h
    | some b => rw [hm] at h; exact MAt.kept h (hk b hm)
  | bufs =>
    unfold Cont at h ⊢
    cases hm : D.bm with
    | none => rw [hm] at h; exact h
    | some b => rw [hm] at h; exact MAt.kept h (hk b hm)
  | ch i => exact fun c hc => (hk _ ⟨c, hc, rfl⟩).trans (h c hc)
  | on i => exact fun c hc => (h c hc).kept (fun b hb => hk b ⟨c, hc, hb⟩)
  | ab i => exact fun c hc => row_same (h c hc) (fun b hb => hk b ⟨c, hc, hb⟩)
  | bf b => exact fun x hx => (hk _ ⟨x, hx, rfl⟩).trans (h x hx)
  | nx b => exact fun x hx => (h x hx).kept (fun b hb => hk b ⟨x, hx, hb⟩)
  | bl b => exact fun x hx => (h x hx).kept (fun b hb => hk b ⟨x, hx, hb⟩)
/-- What is owned grows by what is new. -/
def Grown (F : Nat → Prop) (W : World) : Nat → Prop := fun k => F k ∨ W.heap.size ≤ k
section
variable {F F' S : Nat → Prop} {W W' : World} {g : Nat} {D D' : Gd}
/-- A step of the graph: N tells which names own what is new. -/
theorem GrAt.step (h : GrAt F W g D) (hO : Only S W W') (N : Nm → Nat → Prop) (hN : ∀ n k, N n k → F' k ∧ k < W'.heap.size ∧ ∀ n', ¬ Own g D n' k) (hNu : ∀ n n' k, N n k → N n' k → n = n') (hF : ∀ k, F k → F' k)
    (hown : ∀ n k, Own g D' n k → Own g D n k ∨ N n k) (hcont : ∀ n, Cont g D' W' n ∨ (Cont g D' W n ∧ ∀ k, Own g D n k → ¬ S k) ∧ ∀ k, Own g D' n k → Own g D n k) : GrAt F' W' g D' := by
  refine ⟨fun n k hk => ?_, fun n n' k h1 h2 => ?_, fun n => ?_⟩
  · rcases hown n k hk with hk | hk
    · exact ⟨hF k (h.own n k hk).1, Nat.lt_of_lt_of_le (h.own n k hk).2 hO.size⟩
    · exact ⟨(hN n k hk).1, (hN n k hk).2.1⟩
  · rcases hown n k h1 with h1 | h1 <;> rcases hown n' k h2 with h2 | h2
    · exact h.sep n n' k h1 h2
    · exact absurd h1 ((hN n' k h2).2.2 n)
    · exact absurd h2 ((hN n k h1).2.2 n')
    · exact hNu n n' k h1 h2
  · rcases hcont n with hc | ⟨⟨hc, hs⟩, ho⟩
    · exact hc
    · exact hc.kept (fun k hk => hO.block k (h.own n k (ho k hk)).2 (hs k (ho k hk)))
theorem GrAt.lt (h : GrAt F W g D) {n : Nm} {k : Nat} (hk : Own g D n k) : k < W.heap.size := (h.own n k hk).2
/-- The graph where other blocks have turned. -/
theorem GrAt.only (h : GrAt F W g D) (hO : Only S W W') (hS : ∀ k, F k → k < W.heap.size → ¬ S k) : GrAt F W' g D :=
  ⟨fun n k hk => ⟨(h.own n k hk).1, Nat.lt_of_lt_of_le (h.own n k hk).2 hO.size⟩, h.sep, fun n => (h.cont n).kept (fun k hk => hO.block k (h.own n k hk).2 (hS k (h.own n k hk).1 (h.own n k hk).2))⟩
theorem GrAt.mono (h : GrAt F W g D) (hF : ∀ k, k < W.heap.size → F k → F' k) : GrAt F' W g D := ⟨fun n k hk => ⟨hF k (h.own n k hk).2 (h.own n k hk).1, (h.own n k hk).2⟩, h.sep, h.cont⟩
end
open Classical in
noncomputable def updC {α : Type} (f : Int → Option α) (i : Int) (o : Option α) : Int → Option α := fun j => if j = i then o else f j
theorem updC_same {α : Type} (f : Int → Option α) (i : Int) (o : Option α) : updC f i o i = o := by simp [updC]
theorem updC_other {α : Type} (f : Int → Option α) {i j : Int} (o : Option α) (h : j ≠ i) : updC f i o j = f j := by simp [updC, h]
theorem MapAt.say {W : World} {m : Option Nat} {n : Nat} {f f' : Lit → Option Value} (h : MapAt W m n f) (e : ∀ l, f l = f' l) : MapAt W m n f' := by
  obtain rfl : f = f' := funext e
  exact h
theorem left_upd (ch : Int → Option Cx) (i : Int) (o : Option Cx) (l : Lit) : leftF (updC ch i o) l = updF (leftF ch) (.int .i64 i) (o.map (fun c => ptV c.cb)) l := by
  by_cases e : l = .int .i64 i
  · subst e
    rw [upd_same]
    simp [leftF, updC_same]
  · rw [upd_other _ _ e]
    unfold leftF
    split
    · rename_i j
      rw [updC_other _ _ (fun h => e (by rw [h]))]
    · rfl
theorem buf_upd (bf : Int → Option Bx) (i : Int) (o : Option Bx) (l : Lit) : bufF (updC bf i o) l = updF (bufF bf) (.int .i64 i) (o.map (fun c => ptV c.bb)) l := by
  by_cases e : l = .int .i64 i
  · subst e
    rw [upd_same]
    simp [bufF, updC_same]
  · rw [upd_other _ _ e]
    unfold bufF
    split
    · rename_i j
      rw [updC_other _ _ (fun h => e (by rw [h]))]
    · rfl
theorem left_turn {ch : Int → Option Cx} {i : Int} {c c' : Cx} (h : ch i = some c) (hb : c'.cb = c.cb) (l : Lit) : leftF ch l = leftF (updC ch i (some c')) l := by
  rw [left_upd]
  by_cases e : l = .int .i64 i
  · subst e
    rw [upd_same]
    simp [leftF, h, hb]
  · rw [upd_other _ _ e]
theorem buf_turn {bf : Int → Option Bx} {i : Int} {c c' : Bx} (h : bf i = some c) (hb : c'.bb = c.bb) (l : Lit) : bufF bf l = bufF (updC bf i (some c')) l := by
  rw [buf_upd]
  by_cases e : l = .int .i64 i
  · subst e
    rw [upd_same]
    simp [bufF, h, hb]
  · rw [upd_other _ _ e]
section
variable {F S : Nat → Prop} {W W' : World} {g : Nat} {D : Gd}
/-- One change turns. -/
theorem GrAt.chTurn (h : GrAt F W g D) {i : Int} {c c' : Cx} (hi : D.ch i = some c) (hO : Only (fun k => k = c.cb ∨ c.om = some k ∨ c.av.ownBlock = some k) W W') (hcb : c'.cb = c.cb) (hom : c'.om = c.om)
    (hav : c'.av.ownBlock = c.av.ownBlock ∨ ∀ k, c'.av.ownBlock = some k → W.heap.size ≤ k ∧ k < W'.heap.size) (h1 : W'.heap[c.cb]? = some (chO i c')) (h2 : StAt W' c.om c'.on) (h3 : W'.ownsRow 0 3 1 c'.av c'.ab.length (Iy c'.ab)) :
    GrAt (Grown F W) W' g { D with ch := updC D.ch i (some c') } := by
  have ne : ∀ n, (∀ k, Own g D n k → ¬ (k = c.cb ∨ c.om = some k ∨ c.av.ownBlock = some k)) ∨ (n = .ch i ∨ n = .on i ∨ n = .ab i) := by
    intro n
    by_cases hn : n = .ch i ∨ n = .on i ∨ n = .ab i
    · exact .inr hn
    · refine .inl (fun k hk hs => hn ?_)
      rcases hs with hs | hs | hs
      · exact .inl (h.sep _ _ k hk ⟨c, hi, hs.symm⟩)
      · exact .inr (.inl (h.sep _ _ k hk ⟨c, hi, hs⟩))
      · exact .inr (.inr (h.sep _ _ k hk ⟨c, hi, hs⟩))
  have new : ∀ k, W.heap.size ≤ k → ∀ n', ¬ Own g D n' k := fun k hk n' ho => by have := h.lt ho; omega
  have keep : ∀ n, Cont g D W n → (n ≠ .ch i ∧ n ≠ .on i ∧ n ≠ .ab i) → (∀ k, Own g D n k → ¬ (k = c.cb ∨ c.om = some k ∨ c.av.ownBlock = some k)) := fun n _ hn => (ne n).resolve_right (fun e => e.elim hn.1 (fun e => e.elim hn.2.1 hn.2.2))
  refine h.step hO (fun n k => n = .ab i ∧ c'.av.ownBlock = some k ∧ W.heap.size ≤ k ∧ k < W'.heap.size) (fun n k hk => ⟨.inr hk.2.2.1, hk.2.2.2, new k hk.2.2.1⟩) (fun n n' k h1 h2 => h1.1.trans h2.1.symm) (fun k hk => .inl hk) ?_ ?_
  · intro n k hk
    cases n with
    | ch j =>
      by_cases e : j = i
      · subst e
        obtain ⟨x, hx, hk⟩ := hk
        have e1 := (updC_same D.ch j (some c')).symm.trans hx
        cases e1
        exact .inl ⟨c, hi, hcb ▸ hk⟩
      · obtain ⟨x, hx, hk⟩ := hk
        exact .inl ⟨x, (updC_other D.ch (some c') e).symm.trans hx, hk⟩
    | on j =>
      by_cases e : j = i
      · subst e
        obtain ⟨x, hx, hk⟩ := hk
        have e1 := (updC_same D.ch j (some c')).symm.trans hx
        cases e1
        exact .inl ⟨c, hi, hom ▸ hk⟩
      · obtain ⟨x, hx, hk⟩ := hk
        exact .inl ⟨x, (updC_other D.ch (some c') e).symm.trans hx, hk⟩
    | ab j =>
      by_cases e : j = i
      · subst e
        obtain ⟨x, hx, hk⟩ := hk
        have e1 := (updC_same D.ch j (some c')).symm.trans hx
        cases e1
        rcases hav with hav | hav
        · exact .inl ⟨c, hi, hav ▸ hk⟩
        · exact .inr ⟨rfl, hk, hav k hk⟩
      · obtain ⟨x, hx, hk⟩ := hk
        exact .inl ⟨x, (updC_other D.ch (some c') e).symm.trans hx, hk⟩
    | g => exact .inl hk
    | left => exact .inl hk
    | bufs => exact .inl hk
    | bf b => exact .inl hk
    | nx b => exact .inl hk
    | bl b => exact .inl hk
  · intro n
    have hn := h.cont n
    cases n with
    | ch j =>
      by_cases e : j = i
      · subst e
        refine .inl (fun x hx => ?_)
        have e1 := (updC_same D.ch j (some c')).symm.trans hx
        cases e1
        rw [hcb]
        exact h1
      · refine .inr ⟨⟨fun x hx => hn x ((updC_other D.ch (some c') e).symm.trans hx), keep _ hn ⟨fun q => e (by cases q; rfl), fun q => (by cases q), fun q => (by cases q)⟩⟩, fun k hk => ?_⟩
        obtain ⟨x, hx, hk⟩ := hk
        exact ⟨x, (updC_other D.ch (some c') e).symm.trans hx, hk⟩
    | on j =>
      by_cases e : j = i
      · subst e
        refine .inl (fun x hx => ?_)
        have e1 := (updC_same D.ch j (some c')).symm.trans hx
        cases e1
        rw [hom]
        exact h2
      · refine .inr ⟨⟨fun x hx => hn x ((updC_other D.ch (some c') e).symm.trans hx), keep _ hn ⟨fun q => (by cases q), fun q => e (by cases q; rfl), fun q => (by cases q)⟩⟩, fun k hk => ?_⟩
        obtain ⟨x, hx, hk⟩ := hk
        exact ⟨x, (updC_other D.ch (some c') e).symm.trans hx, hk⟩
    | ab j =>
      by_cases e : j = i
      · subst e
        refine .inl (fun x hx => ?_)
        have e1 := (updC_same D.ch j (some c')).symm.trans hx
        cases e1
        exact h3
      · refine .inr ⟨⟨fun x hx => hn x ((updC_other D.ch (some c') e).symm.trans hx), keep _ hn ⟨fun q => (by cases q), fun q => (by cases q), fun q => e (by cases q; rfl)⟩⟩, fun k hk => ?_⟩
        obtain ⟨x, hx, hk⟩ := hk
        exact ⟨x, (updC_other D.ch (some c') e).symm.trans hx, hk⟩
    | left => exact .inr ⟨⟨MapAt.say (W := W) hn (left_turn hi hcb), keep _ hn (by simp)⟩, fun k hk => hk⟩
    | g => exact .inr ⟨⟨hn, keep _ hn (by simp)⟩, fun k hk => hk⟩
    | bufs => exact .inr ⟨⟨hn, keep _ hn (by simp)⟩, fun k hk => hk⟩
    | bf b => exact .inr ⟨⟨hn, keep _ hn (by simp)⟩, fun k hk => hk⟩
    | nx b => exact .inr ⟨⟨hn, keep _ hn (by simp)⟩, fun k hk => hk⟩
    | bl b => exact .inr ⟨⟨hn, keep _ hn (by simp)⟩, fun k hk => hk⟩
end
end Go.Proofs.Ythmbhcmicebcpaa
