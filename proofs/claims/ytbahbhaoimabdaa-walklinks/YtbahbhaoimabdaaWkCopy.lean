/-
  walk.copied: the same nodes in new memory.
-/
import Derived.Test.YtbahbhaoimabdaaWkOwn2
namespace Go.Proofs.Ytbahbhaoimabdaa
open Go Go.Proofs Go.RowKit Go.Shelf

/-- Two nodes with the same values, wherever they lie. -/
structure SameV (x y : NoV) : Prop where
  ino : x.ino = y.ino
  kind : x.kind = y.kind
  links : x.links = y.links
  size : x.size = y.size
  sn : x.sn = y.sn
  bn : x.bn = y.bn
  E : ∀ k, k < x.sn → x.E k = y.E k
  P : ∀ k, k < x.bn → (x.P k).at' = (y.P k).at' ∧ (x.P k).m = (y.P k).m ∧ (x.P k).xs = (y.P k).xs
theorem SameV.refl (x : NoV) : SameV x x := ⟨rfl, rfl, rfl, rfl, rfl, rfl, fun _ _ => rfl, fun _ _ => ⟨rfl, rfl, rfl⟩⟩
def slV (x : NoV) : Value := .slice x.so x.sn x.sc
def blV (x : NoV) : Value := .slice x.bo x.bn x.bc
def daV (p : PaV) : Value := .slice p.ao p.m p.cc
/-- A node's own rows: its slots, its blocks, and the bytes of the first q blocks. -/
structure OwN (W : World) (base : Nat) (q : Nat) (x : NoV) : Prop where
  slots : W.ownsRow base 41 2 (slV x) x.sn (Ey x.sn x.E)
  parts : W.ownsRow base 44 2 (blV x) x.bn (Qy x.bn x.P)
  data : ∀ k, k < q → W.ownsRow base 5 1 (daV (x.P k)) (x.P k).m (By (x.P k).xs)
theorem OwN.kept {W W' : World} {base q : Nat} {x : NoV} (h : OwN W base q x) (hk : ∀ g cs (t : TypeId), base ≤ g → W.heap[g]? = some (.cells cs t (0, 0)) → t ≠ 39 → W'.heap[g]? = W.heap[g]?) : OwN W' base q x := by
  refine ⟨owns_at h.slots (fun g e => ?_), owns_at h.parts (fun g e => ?_), fun k hk' => owns_at (h.data k hk') (fun g e => ?_)⟩
  · obtain ⟨h1, -, cs, h2⟩ := owns_kind h.slots g e
    exact hk g cs _ h1 h2 (by decide)
  · obtain ⟨h1, -, cs, h2⟩ := owns_kind h.parts g e
    exact hk g cs _ h1 h2 (by decide)
  · obtain ⟨h1, -, cs, h2⟩ := owns_kind (h.data k hk') g e
    exact hk g cs _ h1 h2 (by decide)
theorem OwN.blw {W W' : World} {base q : Nat} {x : NoV} (h : OwN W base q x) (hB : Below W.heap.size W W') : OwN W' base q x := h.kept (fun g _ _ _ hg _ => hB.block g (lt_of_block hg))
/-- The first j nodes are copied. -/
structure CpI (w0 : World) (m : Nat) (Nd : Nat → NoV) (v : Value) (L : List NoV) (j : Nat) (W : World) : Prop where
  row : W.ownsRow w0.heap.size 39 6 v m (Ny L)
  len : L.length = m
  own : ∀ i, i < j → OwN W w0.heap.size (L.getD i noZ).bn (L.getD i noZ)
  rest : ∀ i, j ≤ i → i < m → L.getD i noZ = Nd i
  val : ∀ i, i < m → SameV (L.getD i noZ) (Nd i)
  apart : ∀ a b, a < j → b < j → a ≠ b → ∀ g, (slV (L.getD a noZ)).ownBlock = some g → (slV (L.getD b noZ)).ownBlock ≠ some g
  apartB : ∀ a b, a < j → b < j → a ≠ b → ∀ g, (blV (L.getD a noZ)).ownBlock = some g → (blV (L.getD b noZ)).ownBlock ≠ some g
  below : Below w0.heap.size w0 W
theorem CpI.blw {w0 : World} {m : Nat} {Nd : Nat → NoV} {v : Value} {L : List NoV} {j : Nat} {W W' : World} (h : CpI w0 m Nd v L j W) (hB : Below W.heap.size W W') : CpI w0 m Nd v L j W' :=
  ⟨owns_at h.row (fun g e => hB.block g (owns_kind h.row g e).2.1), h.len, fun i hi => (h.own i hi).blw hB, h.rest, h.val, h.apart, h.apartB, h.below.trans (hB.mono h.below.size)⟩
theorem getD_set {L : List NoV} {j i : Nat} {x : NoV} (hj : j < L.length) : (L.set j x).getD i noZ = if i = j then x else L.getD i noZ := by
  unfold List.getD
  rw [List.getElem?_set]
  by_cases e : j = i
  · subst e; simp [hj]
  · rw [if_neg e, if_neg (fun h => e h.symm)]
/-- One node of the row is written anew: its slots, or its blocks. -/
theorem CpI.turn {w0 : World} {m : Nat} {Nd : Nat → NoV} {v : Value} {L : List NoV} {j : Nat} {W : World} {g : Nat} (h : CpI w0 m Nd v L j W) (hg : v.ownBlock = some g) (hj : j < m) (i : Nat) (hi : i < 6) (u : Value) (x : NoV) (hx : noC x = (noC (L.getD j noZ)).set i u) :
    (W.setCell ⟨g, j * 6 + i, none⟩ u).ownsRow w0.heap.size 39 6 v m (Ny (L.set j x)) := by
  have h1 := owns_setG h.row hg (j * 6 + i) u
  rwa [Ny_set L j i (by rw [h.len]; exact hj) hi u x hx] at h1
theorem clonE_all (w : World) (so : Option Addr) (n c : Nat) (E : Nat → EnV) (hE : EnAt w so n E) (hn : n ≤ 16777216) : Calls Try.prog 45 #[.slice so n c] w fun e w' => ∃ v', e = .returned v' ∧ w'.ownsRow w.heap.size 41 2 v' n (Ey n E) ∧ Below w.heap.size w w' := by
  cases so with
  | none =>
    obtain rfl : n = 0 := by
      rcases Nat.eq_zero_or_pos n with h | h
      · exact h
      · obtain ⟨b, o, e, -⟩ := hE h; cases e
    refine (clonE_nil w 0 c).mono ?_
    rintro e w' ⟨rfl, rfl⟩
    exact ⟨_, rfl, World.ownsRow_nil _ _ _ _, Below.refl _ _⟩
  | some a => exact clonE_any w a n c (Ey n E) (flat2_length n) hn (hE.cells rfl) (Ey_one n E)
theorem clonP_all (w : World) (so : Option Addr) (n c : Nat) (P : Nat → PaV) (hP : PaAt w so n P) (hn : n ≤ 16777216) : Calls Try.prog 46 #[.slice so n c] w fun e w' => ∃ v', e = .returned v' ∧ w'.ownsRow w.heap.size 44 2 v' n (Qy n P) ∧ Below w.heap.size w w' := by
  cases so with
  | none =>
    obtain rfl : n = 0 := by
      rcases Nat.eq_zero_or_pos n with h | h
      · exact h
      · obtain ⟨b, o, e, -⟩ := hP h; cases e
    refine (clonP_nil w 0 c).mono ?_
    rintro e w' ⟨rfl, rfl⟩
    exact ⟨_, rfl, World.ownsRow_nil _ _ _ _, Below.refl _ _⟩
  | some a => exact clonP_any w a n c (Qy n P) (flat2_length n) hn (hP.cells rfl) (Qy_one n P)
theorem clonB_all (w : World) (so : Option Addr) (n c : Nat) (xs : List Int) (hB : BAt w so n xs) (hno : so = none → n = 0) (hn : n ≤ 16777216) : Calls Try.prog 47 #[.slice so n c] w fun e w' => ∃ v', e = .returned v' ∧ w'.ownsRow w.heap.size 5 1 v' n (By xs) ∧ Below w.heap.size w w' := by
  have hl : (By xs).length = n * 1 := by rw [By_length, hB.1, Nat.mul_one]
  cases so with
  | none =>
    obtain rfl := hno rfl
    obtain rfl : xs = [] := List.eq_nil_of_length_eq_zero hB.1
    refine (clonB_nil w 0 c).mono ?_
    rintro e w' ⟨rfl, rfl⟩
    exact ⟨_, rfl, World.ownsRow_nil _ _ _ _, Below.refl _ _⟩
  | some a =>
    refine clonB_any w a n c (By xs) hl hn (fun j u hj => ?_) (By_one xs)
    have hjn : j < n := by
      have := (List.getElem?_eq_some_iff.1 hj).1
      omega
    obtain ⟨a', e, hc⟩ := hB.at j hjn
    cases e
    rw [By_get xs j (by rw [hB.1]; exact hjn)] at hj
    rw [hc]
    exact hj
theorem clonN_all (w : World) (ao : Option Addr) (m c : Nat) (Nd : Nat → NoV) (hN : NoAt w ao m Nd) (hm : m ≤ 16777216) : Calls Try.prog 44 #[.slice ao m c] w fun e w' => ∃ v', e = .returned v' ∧ w'.ownsRow w.heap.size 39 6 v' m (Ny ((List.range m).map Nd)) ∧ Below w.heap.size w w' := by
  cases ao with
  | none =>
    obtain rfl : m = 0 := by
      rcases Nat.eq_zero_or_pos m with h | h
      · exact h
      · obtain ⟨b, o, e, -⟩ := hN h; cases e
    refine (clonN_nil w 0 c).mono ?_
    rintro e w' ⟨rfl, rfl⟩
    exact ⟨_, rfl, World.ownsRow_nil _ _ _ _, Below.refl _ _⟩
  | some a =>
    refine clonN_any w a m c _ (by rw [Ny_length]; simp) hm (fun j u hj => ?_) (Ny_one _)
    have hjl : j < m * 6 := by
      have := (List.getElem?_eq_some_iff.1 hj).1
      rw [Ny_length] at this
      simpa using this
    obtain ⟨b, o, e, -, hc⟩ := hN (by omega)
    cases e
    obtain ⟨k, i, rfl, hi⟩ : ∃ k i, j = k * 6 + i ∧ i < 6 := ⟨j / 6, j % 6, by omega, by omega⟩
    obtain ⟨⟨z0, z1, z2, z3, z4, z5⟩, -⟩ := hc k (by omega)
    rw [Ny_get _ k i (by simp; omega) hi] at hj
    have hg : ((List.range m).map Nd).getD k noZ = Nd k := by
      rw [List.getD, List.getElem?_map, List.getElem?_range (by omega)]; rfl
    rw [hg] at hj
    rw [add_at, ← Nat.add_assoc]
    match i, hi with
    | 0, _ => cases hj; exact z0
    | 1, _ => cases hj; exact z1
    | 2, _ => cases hj; exact z2
    | 3, _ => cases hj; exact z3
    | 4, _ => cases hj; exact z4
    | 5, _ => cases hj; exact z5
end Go.Proofs.Ytbahbhaoimabdaa
