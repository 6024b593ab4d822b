/-
  A graph of changes by what it holds alone; what each step makes of it.
-/
import Derived.Test.YthmbhcmicebcpaaDpIter
namespace Go.Proofs.Ythmbhcmicebcpaa
open Go Go.Proofs Go.RowKit Go.Shelf
structure Ca where
  buf : Int
  on : List Int
  ab : List Int
structure Ba where
  nx : List Int
  bl : List Int
structure Ga where
  added : Nat
  ch : Int → Option Ca
  bf : Int → Option Ba
  nl : Nat
  nb : Nat
  ml : Bool
  mb : Bool
def Cx.dat (c : Cx) : Ca := ⟨c.buf, c.on, c.ab⟩
def Bx.dat (x : Bx) : Ba := ⟨x.nx, x.bl⟩
def Gd.abs (D : Gd) : Ga := ⟨D.added, fun i => (D.ch i).map Cx.dat, fun b => (D.bf b).map Bx.dat, D.nl, D.nb, D.lm.isSome, D.bm.isSome⟩
noncomputable def Ga.freed (A : Ga) (y b : Int) : Ga := match A.bf b with
  | none => A
  | some x => { A with bf := updC A.bf b (some ⟨insS y x.nx, delS y x.bl⟩) }
noncomputable def Ga.unhang (i : Int) (A : Ga) (y : Int) : Ga := match A.ch y with
  | none => A
  | some c => if delS i c.on = [] then Ga.freed { A with ch := updC A.ch y (some ⟨c.buf, delS i c.on, c.ab⟩) } y c.buf else { A with ch := updC A.ch y (some ⟨c.buf, delS i c.on, c.ab⟩) }
noncomputable def Ga.cut (A : Ga) (i b : Int) : Ga := match A.bf b with
  | none => { A with ch := updC A.ch i none, nl := A.nl - 1 }
  | some x => { A with ch := updC A.ch i none, nl := A.nl - 1, bf := updC A.bf b (some ⟨delS i x.nx, x.bl⟩) }
noncomputable def Ga.shed (A : Ga) (b : Int) : Ga := match A.bf b with
  | none => A
  | some x => if x.nx.length + x.bl.length = 0 then { A with bf := updC A.bf b none, nb := A.nb - 1 } else A
noncomputable def Ga.finish (A : Ga) (i : Int) : Ga := match A.ch i with
  | none => A
  | some c => ((c.ab.foldl (Ga.unhang i) (A.cut i c.buf))).shed c.buf
/-- A change is laid into the graph. -/
noncomputable def Ga.lay (A : Ga) (i : Int) (c : Ca) : Ga := { A with ch := updC A.ch i (some c), nl := A.nl + 1, ml := true, mb := true }
noncomputable def Ga.bufd (A : Ga) (b : Int) : Ga := match A.bf b with
  | some _ => A
  | none => { A with bf := updC A.bf b (some ⟨[], []⟩), nb := A.nb + 1 }
noncomputable def Ga.sort (A : Ga) (i : Int) (c : Ca) : Ga := match A.bf c.buf with
  | none => A
  | some x => if c.on = [] then { A with bf := updC A.bf c.buf (some ⟨insS i x.nx, x.bl⟩) } else { A with bf := updC A.bf c.buf (some ⟨x.nx, insS i x.bl⟩) }
noncomputable def Ga.keep (A : Ga) (i : Int) (c : Ca) : Ga := ((A.lay i c).bufd c.buf).sort i c
/-- All is well. -/
structure Ga.Ok (A : Ga) : Prop where
  big : A.added ≤ 900000
  chs : ∀ i c, A.ch i = some c → (0 ≤ i ∧ i < A.added) ∧ (Lit.int .i64 c.buf).wf = true ∧ (A.bf c.buf).isSome = true
  nxs : ∀ b x, A.bf b = some x → (∀ y ∈ x.nx, 0 ≤ y ∧ y < A.added) ∧ (∀ y ∈ x.bl, 0 ≤ y ∧ y < A.added)
theorem rise_len0 {S : List Int} {n : Int} : ∀ lo : Int, S.Pairwise (· < ·) → (∀ y ∈ S, lo ≤ y ∧ y < n) → (S.length : Int) ≤ max (n - lo) 0 := by
  induction S with
  | nil => intro lo _ _; simp; omega
  | cons z r ih =>
    intro lo h hb
    have hz := List.pairwise_cons.1 h
    have h1 := hb z (by simp)
    have := ih (z + 1) hz.2 (fun y hy => ⟨by have := hz.1 y hy; omega, (hb y (by simp [hy])).2⟩)
    simp
    omega
theorem rise_len {S : List Int} {n : Nat} (h : S.Pairwise (· < ·)) (hb : ∀ y ∈ S, 0 ≤ y ∧ y < n) : S.length ≤ n := by
  have := rise_len0 (n := n) 0 h hb
  omega
theorem wf_small {i : Int} {n : Nat} (h : 0 ≤ i ∧ i < n) (hn : n ≤ 900000) : (Lit.int .i64 i).wf = true := WalkArith.wf_i64 (by omega)
theorem updC_map {α β : Type} (f : Int → Option α) (i : Int) (o : Option α) (m : α → β) : (fun j => (updC f i o j).map m) = updC (fun j => (f j).map m) i (o.map m) := by
  funext j
  by_cases e : j = i
  · subst e; rw [updC_same, updC_same]
  · rw [updC_other _ _ e, updC_other _ _ e]
theorem abs_bf (D : Gd) (b : Int) (x : Bx) : ({ D with bf := updC D.bf b (some x) } : Gd).abs = { D.abs with bf := updC D.abs.bf b (some x.dat) } := by
  unfold Gd.abs
  simp only [Ga.mk.injEq, true_and, and_true]
  exact updC_map D.bf b (some x) Bx.dat
theorem abs_ch (D : Gd) (i : Int) (c : Cx) : ({ D with ch := updC D.ch i (some c) } : Gd).abs = { D.abs with ch := updC D.abs.ch i (some c.dat) } := by
  unfold Gd.abs
  simp only [Ga.mk.injEq, true_and, and_true]
  exact updC_map D.ch i (some c) Cx.dat
theorem abs_chN (D : Gd) (i : Int) : ({ D with ch := updC D.ch i none, nl := D.nl - 1 } : Gd).abs = { D.abs with ch := updC D.abs.ch i none, nl := D.abs.nl - 1 } := by
  unfold Gd.abs
  simp only [Ga.mk.injEq, true_and, and_true]
  exact updC_map D.ch i none Cx.dat
theorem abs_bfN (D : Gd) (i : Int) : ({ D with bf := updC D.bf i none, nb := D.nb - 1 } : Gd).abs = { D.abs with bf := updC D.abs.bf i none, nb := D.abs.nb - 1 } := by
  unfold Gd.abs
  simp only [Ga.mk.injEq, true_and, and_true]
  exact updC_map D.bf i none Bx.dat
/-- Exactly what is owned. -/
def OwnA (g : Nat) (D : Gd) : Nat → Prop := fun k => ∃ n, Own g D n k
theorem GrAt.tight {F : Nat → Prop} {W : World} {g : Nat} {D : Gd} (h : GrAt F W g D) : GrAt (OwnA g D) W g D := ⟨fun n k hk => ⟨⟨n, hk⟩, (h.own n k hk).2⟩, h.sep, h.cont⟩
theorem GrAt.inF {F : Nat → Prop} {W : World} {g : Nat} {D : Gd} (h : GrAt F W g D) {k : Nat} (hk : OwnA g D k) : F k := by
  obtain ⟨n, hn⟩ := hk
  exact (h.own n k hn).1
end Go.Proofs.Ythmbhcmicebcpaa
