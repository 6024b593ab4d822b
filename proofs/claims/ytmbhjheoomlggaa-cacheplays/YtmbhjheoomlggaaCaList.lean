/-
  The list of kept blocks as it lies in memory: places that name each other.
-/
import Derived.Test.YtmbhjheoomlggaaCaRange
import Derived.Test.YtmbhjheoomlggaaTrMap
import Derived.Test.YtmbhjheoomlggaaDkBytes
import Derived.Test.YtmbhjheoomlggaaDkWriteAny
import Derived.BigRegion
namespace Go.Proofs.Ytmbhjheoomlggaa
open Go Go.Proofs Go.RowKit Go.Shelf

/-- A kept block, and where its parts lie. -/
structure Pl where
  p : Nat
  h : Nat
  g : Nat
  cap : Nat
  num : Int
  pins : Nat
  dirty : Bool
  dat : List Int
def Pl.idle (x : Pl) : Bool := decide (x.pins = 0) && !x.dirty
abbrev ptV (b : Nat) : Value := .pointer (some ⟨b, 0, none⟩)
abbrev niV : Value := .pointer none
def nxtV : List Pl → Value → Value
  | [], e => e
  | x :: _, _ => ptV x.p
def lstV : Value → List Pl → Value
  | a, [] => a
  | _, x :: r => lstV (ptV x.p) r
/-- Places one behind the other; a ahead of them, e behind. -/
def Seg (W : World) : Value → List Pl → Value → Prop
  | _, [], _ => True
  | a, x :: r, e => W.heap[x.p]? = some (.cells #[ptV x.h, a, nxtV r e] 67 (0, 0)) ∧ Seg W (ptV x.p) r e
theorem nxtV_append (A B : List Pl) (e : Value) : nxtV (A ++ B) e = nxtV A (nxtV B e) := by cases A <;> rfl
theorem lstV_append (a : Value) (A B : List Pl) : lstV a (A ++ B) = lstV (lstV a A) B := by
  induction A generalizing a with
  | nil => rfl
  | cons x A ih => exact ih _
theorem lstV_snoc (a : Value) (A : List Pl) (x : Pl) : lstV a (A ++ [x]) = ptV x.p := by rw [lstV_append]; rfl
theorem Seg.app {W : World} {a e : Value} {A B : List Pl} : Seg W a (A ++ B) e ↔ Seg W a A (nxtV B e) ∧ Seg W (lstV a A) B e := by
  induction A generalizing a with
  | nil => exact ⟨fun h => ⟨trivial, h⟩, fun h => h.2⟩
  | cons x A ih =>
    show (W.heap[x.p]? = some (.cells #[ptV x.h, a, nxtV (A ++ B) e] 67 (0, 0)) ∧ Seg W _ (A ++ B) e) ↔ (_ ∧ Seg W _ A _) ∧ Seg W (lstV (ptV x.p) A) B e
    rw [ih, nxtV_append, and_assoc]
theorem Seg.keep {W W' : World} {a e : Value} {L : List Pl} (h : Seg W a L e) (hk : ∀ x ∈ L, W'.heap[x.p]? = W.heap[x.p]?) : Seg W' a L e := by
  induction L generalizing a with
  | nil => trivial
  | cons x L ih => exact ⟨(hk x (by simp)).trans h.1, ih h.2 (fun y hy => hk y (by simp [hy]))⟩
theorem Seg.mem {W : World} {a e : Value} {L : List Pl} (h : Seg W a L e) {x : Pl} (hx : x ∈ L) : ∃ u v, W.heap[x.p]? = some (.cells #[ptV x.h, u, v] 67 (0, 0)) := by
  induction L generalizing a with
  | nil => cases hx
  | cons y L ih =>
    rcases List.mem_cons.1 hx with rfl | hx
    · exact ⟨_, _, h.1⟩
    · exact ih h.2 hx
theorem Seg.at {W : World} {a e : Value} {A B : List Pl} {x : Pl} (h : Seg W a (A ++ x :: B) e) : Seg W a A (ptV x.p) ∧ W.heap[x.p]? = some (.cells #[ptV x.h, lstV a A, nxtV B e] 67 (0, 0)) ∧ Seg W (ptV x.p) B e := by
  obtain ⟨h1, h2, h3⟩ := Seg.app.1 h
  exact ⟨h1, h2, h3⟩
theorem Seg.relast {W W' : World} {a e e' : Value} {A : List Pl} {x : Pl} (h : Seg W a (A ++ [x]) e) (hx : W'.heap[x.p]? = some (.cells #[ptV x.h, lstV a A, e'] 67 (0, 0))) (hk : ∀ y ∈ A, W'.heap[y.p]? = W.heap[y.p]?) : Seg W' a (A ++ [x]) e' := by
  obtain ⟨h1, h2⟩ := Seg.app.1 h
  exact Seg.app.2 ⟨h1.keep hk, hx, trivial⟩
theorem Seg.refirst {W W' : World} {a a' e : Value} {B : List Pl} {x : Pl} (h : Seg W a (x :: B) e) (hx : W'.heap[x.p]? = some (.cells #[ptV x.h, a', nxtV B e] 67 (0, 0))) (hk : ∀ y ∈ B, W'.heap[y.p]? = W.heap[y.p]?) : Seg W' a' (x :: B) e := ⟨hx, h.2.keep hk⟩
/-- The head of the list in a cache's block, and its places. -/
structure LsAt (W : World) (c : Nat) (v0 v1 v2 v5 v6 : Value) (L : List Pl) : Prop where
  blk : W.heap[c]? = some (.cells #[v0, v1, v2, nxtV L niV, lstV niV L, v5, v6] 61 (0, 0))
  seg : Seg W niV L niV
  nd : (L.map (·.p)).Nodup
theorem LsAt.ne {W : World} {c : Nat} {v0 v1 v2 v5 v6 : Value} {L : List Pl} (h : LsAt W c v0 v1 v2 v5 v6 L) {x : Pl} (hx : x ∈ L) : x.p ≠ c := by
  intro e
  obtain ⟨u, v, hb⟩ := h.seg.mem hx
  rw [e, h.blk] at hb
  simp at hb
/-- What turns when a list does. -/
def Tn (c : Nat) (L : List Pl) (k : Nat) : Prop := k = c ∨ ∃ y ∈ L, k = y.p
theorem nd_split {A B : List Pl} {x : Pl} (h : ((A ++ x :: B).map (·.p)).Nodup) : ((A ++ B).map (·.p)).Nodup ∧ (∀ y ∈ A ++ B, y.p ≠ x.p) ∧ (∀ y ∈ A, ∀ z ∈ B, y.p ≠ z.p) := by
  simp only [List.map_append, List.map_cons, List.nodup_append, List.nodup_cons, List.mem_cons, List.mem_map] at h ⊢
  obtain ⟨h1, ⟨h2, h3⟩, h4⟩ := h
  refine ⟨⟨h1, h3, fun a ha b hb => h4 a ha b (.inr hb)⟩, ?_, ?_⟩
  · intro y hy
    rcases List.mem_append.1 hy with hy | hy
    · exact h4 y.p ⟨y, hy, rfl⟩ x.p (.inl rfl)
    · exact fun e => h2 ⟨y, hy, e⟩
  · intro y hy z hz
    exact h4 y.p ⟨y, hy, rfl⟩ z.p (.inr ⟨z, hz, rfl⟩)
theorem snoc_cases (L : List Pl) : L = [] ∨ ∃ A a, L = A ++ [a] := by
  rcases List.eq_nil_or_concat L with h | ⟨A, a, h⟩
  · exact .inl h
  · exact .inr ⟨A, a, by rw [h, List.concat_eq_append]⟩
/-- What remove has to leave. -/
theorem rem_fin {w w' : World} {c : Nat} {v0 v1 v2 v5 v6 : Value} {A B : List Pl} {x : Pl} (h : LsAt w c v0 v1 v2 v5 v6 (A ++ x :: B))
    (hc : w'.heap[c]? = some (.cells #[v0, v1, v2, nxtV (A ++ B) niV, lstV niV (A ++ B), v5, v6] 61 (0, 0)))
    (hA : ∀ A' a, A = A' ++ [a] → w'.heap[a.p]? = some (.cells #[ptV a.h, lstV niV A', nxtV B niV] 67 (0, 0)))
    (hB : ∀ b B', B = b :: B' → w'.heap[b.p]? = some (.cells #[ptV b.h, lstV niV A, nxtV B' niV] 67 (0, 0)))
    (ho : ∀ k, k ≠ c → k ≠ x.p → (∀ A' a, A = A' ++ [a] → k ≠ a.p) → (∀ b B', B = b :: B' → k ≠ b.p) → w'.heap[k]? = w.heap[k]?)
    (hs : w.heap.size ≤ w'.heap.size) (e1 : w'.os = w.os) (e2 : w'.tape = w.tape) (e3 : w'.output = w.output) :
    LsAt w' c v0 v1 v2 v5 v6 (A ++ B) ∧ Only (Tn c (A ++ x :: B)) w w' := by
  obtain ⟨n1, n2, n3⟩ := nd_split h.nd
  obtain ⟨s1, s2, s3⟩ := h.seg.at
  refine ⟨⟨hc, Seg.app.2 ⟨?_, ?_⟩, n1⟩, e1, e2, e3, hs, fun k _ hk => ?_⟩
  · rcases snoc_cases A with rfl | ⟨A', a, rfl⟩
    · trivial
    · refine s1.relast (hA A' a rfl) (fun y hy => ?_)
      have hyL : y ∈ A' ++ [a] ++ x :: B := by simp [hy]
      refine ho y.p (h.ne hyL) (n2 y (by simp [hy])) (fun A2 a2 e => ?_) (fun b B' e => ?_)
      · obtain ⟨rfl, e2⟩ := List.append_inj' e rfl
        cases e2
        simp only [List.map_append, List.nodup_append] at n1
        exact n1.1.2.2 y.p (List.mem_map.2 ⟨y, hy, rfl⟩) a.p (by simp)
      · exact n3 y (by simp [hy]) b (by simp [e])
  · cases B with
    | nil => trivial
    | cons b B' =>
      refine s3.refirst (hB b B' rfl) (fun y hy => ?_)
      refine ho y.p (h.ne (x := y) (by simp [hy])) (n2 y (by simp [hy])) (fun A2 a2 e => ?_) (fun b2 B2 e => ?_)
      · exact fun e' => n3 a2 (by simp [e]) y (by simp [hy]) e'.symm
      · cases e
        simp only [List.map_append, List.map_cons, List.nodup_append, List.nodup_cons] at n1
        exact fun e' => n1.2.1.1 (e' ▸ List.mem_map.2 ⟨y, hy, rfl⟩)
  · refine ho k (fun e => hk (.inl e)) (fun e => hk (.inr ⟨x, by simp, e⟩)) (fun A' a e e' => hk (.inr ⟨a, by simp [e], e'⟩)) (fun b B' e e' => hk (.inr ⟨b, by simp [e], e'⟩))
end Go.Proofs.Ytmbhjheoomlggaa
