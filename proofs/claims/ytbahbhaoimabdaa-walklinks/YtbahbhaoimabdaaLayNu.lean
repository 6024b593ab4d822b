/-
  Nodes numbered anew: numbers alone.
-/
import Derived.Test.YtbahbhaoimabdaaWkCopyW
namespace Go.Proofs.Ytbahbhaoimabdaa
open Go Go.Proofs Go.RowKit Go.Shelf

/-- A slot that names none. -/
def enZ : EnV := ⟨0, ⟨#[]⟩⟩
/-- A slot is read: the row of places that are reached, and the slot anew. -/
def numT (R : List Nat) (e : EnV) : Option Nat → List Nat × EnV
  | none => (R, enZ)
  | some t => if t ∈ R then (R, ⟨((R.idxOf t : Nat) : Int) + 1, e.nm⟩) else (R ++ [t], ⟨(R.length : Int) + 1, e.nm⟩)
def leadS (m : Nat) (Nd : Nat → NoV) (e : EnV) : Option Nat := if e.ino = 0 then none else firstN m Nd e.ino
def numStep (m : Nat) (Nd : Nat → NoV) (R : List Nat) (e : EnV) : List Nat × EnV := numT R e (leadS m Nd e)
/-- The row behind k slots of E. -/
def rowS (m : Nat) (Nd : Nat → NoV) (E : Nat → EnV) (R : List Nat) : Nat → List Nat
  | 0 => R
  | k + 1 => (numStep m Nd (rowS m Nd E R k) (E k)).1
def numE (m : Nat) (Nd : Nat → NoV) (E : Nat → EnV) (R : List Nat) (k : Nat) : EnV := (numStep m Nd (rowS m Nd E R k) (E k)).2
/-- The row behind a nodes. -/
def rowN (m : Nat) (Nd : Nat → NoV) (r : Nat) : Nat → List Nat
  | 0 => [r]
  | a + 1 => if a < (rowN m Nd r a).length then rowS m Nd (Nd ((rowN m Nd r a).getD a 0)).E (rowN m Nd r a) (Nd ((rowN m Nd r a).getD a 0)).sn else rowN m Nd r a
/-- Rows of places: each once, below m. -/
structure RowOk (m : Nat) (R : List Nat) : Prop where
  nodup : R.Nodup
  lt : ∀ t, t ∈ R → t < m
theorem numT_row {m : Nat} {R : List Nat} {e : EnV} {o : Option Nat} (h : RowOk m R) (ho : ∀ t, o = some t → t < m) : RowOk m (numT R e o).1 ∧ R <+: (numT R e o).1 := by
  unfold numT
  cases o with
  | none => exact ⟨h, List.prefix_refl _⟩
  | some t =>
    dsimp only
    split
    · exact ⟨h, List.prefix_refl _⟩
    · rename_i hn
      refine ⟨⟨?_, fun x hx => ?_⟩, List.prefix_append _ _⟩
      · rw [List.nodup_append]
        refine ⟨h.nodup, by simp, fun a ha b hb => ?_⟩
        rw [List.mem_singleton] at hb
        subst hb
        intro e; subst e
        exact hn ha
      · rcases List.mem_append.1 hx with h1 | h1
        · exact h.lt x h1
        · rw [List.mem_singleton] at h1; subst h1; exact ho _ rfl
theorem lead_lt {m : Nat} {Nd : Nat → NoV} {e : EnV} : ∀ t, leadS m Nd e = some t → t < m := by
  intro t h
  unfold leadS at h
  split at h
  · cases h
  · exact (firstN_some h).1
theorem rowS_ok {m : Nat} {Nd : Nat → NoV} {E : Nat → EnV} {R : List Nat} (h : RowOk m R) (k : Nat) : RowOk m (rowS m Nd E R k) ∧ R <+: rowS m Nd E R k := by
  induction k with
  | zero => exact ⟨h, List.prefix_refl _⟩
  | succ k ih =>
    have h1 := numT_row (e := E k) ih.1 (lead_lt (Nd := Nd) (e := E k))
    exact ⟨h1.1, ih.2.trans h1.2⟩
theorem rowN_ok {m : Nat} {Nd : Nat → NoV} {r : Nat} (hr : r < m) (a : Nat) : RowOk m (rowN m Nd r a) := by
  induction a with
  | zero => exact ⟨by simp [rowN], fun t ht => by simp [rowN] at ht; omega⟩
  | succ a ih =>
    rw [rowN]
    split
    · exact (rowS_ok ih _).1
    · exact ih
theorem rowN_step {m : Nat} {Nd : Nat → NoV} {r : Nat} (hr : r < m) (a : Nat) : rowN m Nd r a <+: rowN m Nd r (a + 1) := by
  rw [rowN]
  split
  · exact (rowS_ok (rowN_ok hr a) _).2
  · exact List.prefix_refl _
theorem rowN_le {m : Nat} {Nd : Nat → NoV} {r : Nat} (hr : r < m) {a b : Nat} (h : a ≤ b) : rowN m Nd r a <+: rowN m Nd r b := by
  induction b with
  | zero => obtain rfl : a = 0 := by omega
            exact List.prefix_refl _
  | succ b ih =>
    by_cases e : a = b + 1
    · subst e; exact List.prefix_refl _
    · exact (ih (by omega)).trans (rowN_step hr b)
theorem nodup_lt (m : Nat) : ∀ R : List Nat, R.Nodup → (∀ t, t ∈ R → t < m) → R.length ≤ m := by
  induction m with
  | zero =>
    intro R _ h
    cases R with
    | nil => simp
    | cons x R => exact absurd (h x (by simp)) (by omega)
  | succ m ih =>
    intro R hn h
    have h1 := ih (R.erase m) (hn.erase m) (fun t ht => by
      have h2 := hn.mem_erase_iff.1 ht
      have := h t h2.2
      have := h2.1
      omega)
    rw [List.length_erase] at h1
    split at h1 <;> omega
theorem RowOk.length {m : Nat} {R : List Nat} (h : RowOk m R) : R.length ≤ m := nodup_lt m R h.nodup h.lt
theorem prefix_getD {R S : List Nat} (h : R <+: S) {k : Nat} (hk : k < R.length) : S.getD k 0 = R.getD k 0 := by
  obtain ⟨T, rfl⟩ := h
  simp [List.getD, List.getElem?_append_left hk]
theorem prefix_idxOf {R S : List Nat} (h : R <+: S) {t : Nat} (ht : t ∈ R) : S.idxOf t = R.idxOf t := by
  obtain ⟨T, rfl⟩ := h
  exact by rw [List.idxOf_append, if_pos ht]
/-- Behind all of the row, nothing more comes. -/
theorem rowN_done {m : Nat} {Nd : Nat → NoV} {r a : Nat} (h : (rowN m Nd r a).length ≤ a) (b : Nat) (hb : a ≤ b) : rowN m Nd r b = rowN m Nd r a := by
  induction b with
  | zero => obtain rfl : a = 0 := by omega
            rfl
  | succ b ih =>
    by_cases e : a = b + 1
    · subst e; rfl
    · have h1 := ih (by omega)
      rw [rowN, h1, if_neg (by omega)]
theorem rowN_pos {m : Nat} {Nd : Nat → NoV} {r : Nat} (hr : r < m) (a : Nat) : 0 < (rowN m Nd r a).length := by
  have h := (rowN_le (Nd := Nd) hr (Nat.zero_le a)).length_le
  have h1 : (rowN m Nd r 0).length = 1 := rfl
  omega
/-- The numbers that are known. -/
def numF (m : Nat) (Nd : Nat → NoV) (R : List Nat) : Lit → Option Value
  | .int .i64 k => (firstN m Nd k).bind fun t => if t ∈ R then some (.int .i64 (((R.idxOf t : Nat) : Int) + 1)) else none
  | _ => none
theorem numF_upd {m : Nat} {Nd : Nat → NoV} {R : List Nat} {k : Int} {t : Nat} (h : firstN m Nd k = some t) (hn : t ∉ R) (kl : Lit) : updF (numF m Nd R) (.int .i64 k) (some (.int .i64 ((R.length : Int) + 1))) kl = numF m Nd (R ++ [t]) kl := by
  by_cases e : kl = .int .i64 k
  · subst e
    rw [upd_same]
    unfold numF
    simp only [h, Option.bind]
    rw [if_pos (by simp), List.idxOf_append, if_neg hn]
    simp
  · rw [upd_other _ _ e]
    cases kl with
    | int ik k' =>
      cases ik <;> try rfl
      unfold numF
      dsimp only
      cases hq : firstN m Nd k' with
      | none => rfl
      | some t' =>
        have hne : t' ≠ t := fun e2 => by
          subst e2
          have h1 := (firstN_some hq).2
          have h2 := (firstN_some h).2
          exact e (by rw [← h1, ← h2])
        simp only [Option.bind]
        by_cases hm : t' ∈ R
        · rw [if_pos hm, if_pos (List.mem_append_left _ hm), List.idxOf_append, if_pos hm]
        · rw [if_neg hm, if_neg (by simp [hm, hne])]
    | _ => rfl
end Go.Proofs.Ytbahbhaoimabdaa
namespace Go.Proofs.Ytbahbhaoimabdaa
open Go Go.Proofs Go.RowKit Go.Shelf

def atN (L : List NoV) (j : Nat) : NoV := L.getD j noZ
def setE (x : NoV) (E : Nat → EnV) : NoV := { x with E := E }
/-- Nodes in memory of one's own: the slots are X's. -/
structure NuM (B m : Nat) (v : Value) (L : List NoV) (X : Nat → Nat → EnV) (W : World) : Prop where
  row : W.ownsRow B 39 6 v m (Ny L)
  own : ∀ i, i < m → OwN W B (L.getD i noZ).bn (setE (L.getD i noZ) (X i))
/-- What of it doesn't turn. -/
structure NuS (m : Nat) (L : List NoV) : Prop where
  len : L.length = m
  small : m ≤ 16777216
  apart : ∀ a b, a < m → b < m → a ≠ b → ∀ g, (slV (L.getD a noZ)).ownBlock = some g → (slV (L.getD b noZ)).ownBlock ≠ some g
  sn : ∀ i, i < m → (L.getD i noZ).sn ≤ 16777216
  wf : ∀ i, i < m → (L.getD i noZ).wf
  by' : ∀ i, i < m → ∀ k, k < (L.getD i noZ).bn → ∀ x ∈ ((L.getD i noZ).P k).xs, 0 ≤ x ∧ x ≤ 255
theorem NuM.blw {B m : Nat} {v : Value} {L : List NoV} {X : Nat → Nat → EnV} {W W' : World} (h : NuM B m v L X W) (hB : Below W.heap.size W W') : NuM B m v L X W' :=
  ⟨owns_at h.row (fun g e => hB.block g (owns_kind h.row g e).2.1), fun i hi => (h.own i hi).blw hB⟩
def updX (X : Nat → Nat → EnV) (p : Nat) (E : Nat → EnV) : Nat → Nat → EnV := fun i => if i = p then E else X i
/-- The slots of one node are written. -/
theorem NuM.put {B m : Nat} {v : Value} {L : List NoV} {X : Nat → Nat → EnV} {W W' : World} (h : NuM B m v L X W) (hS : NuS m L) {p gs : Nat} (hp : p < m) (hg : (slV (L.getD p noZ)).ownBlock = some gs) (hW : ∀ g, g ≠ gs → W'.heap[g]? = W.heap[g]?) {E : Nat → EnV}
    (hn : W'.ownsRow B 41 2 (slV (L.getD p noZ)) (L.getD p noZ).sn (Ey (L.getD p noZ).sn E)) : NuM B m v L (updX X p E) W' := by
  obtain ⟨-, -, cs, hk⟩ := owns_kind (h.own p hp).slots gs hg
  have hne : ∀ {g : Nat} {cs2} {t : TypeId}, W.heap[g]? = some (.cells cs2 t (0, 0)) → t ≠ 41 → g ≠ gs := by
    intro g cs2 t h1 h2 e
    subst e
    rw [hk] at h1
    have := Option.some.inj h1
    injection this with _ e2 _
    exact h2 e2.symm
  refine ⟨owns_at h.row (fun g e => ?_), fun i hi => ?_⟩
  · obtain ⟨-, -, cs2, h2⟩ := owns_kind h.row g e
    exact hW g (hne h2 (by decide))
  · have hi1 := h.own i hi
    refine ⟨?_, owns_at hi1.parts (fun g e => ?_), fun k hk' => owns_at (hi1.data k hk') (fun g e => ?_)⟩
    · unfold updX
      by_cases e : i = p
      · subst e
        rw [if_pos rfl]
        exact hn
      · rw [if_neg e]
        exact owns_at hi1.slots (fun g e2 => hW g (fun e3 => by
          subst e3
          exact hS.apart p i hp hi (fun e4 => e e4.symm) g hg e2))
    · obtain ⟨-, -, cs2, h2⟩ := owns_kind hi1.parts g e
      exact hW g (hne h2 (by decide))
    · obtain ⟨-, -, cs2, h2⟩ := owns_kind (hi1.data k hk') g e
      exact hW g (hne h2 (by decide))
/-- A slot is written. -/
theorem Ey_set (n : Nat) (E : Nat → EnV) (k : Nat) (hk : k < n) (e : EnV) : ((Ey n E).set (k * 2) (.int .i64 e.ino)).set (k * 2 + 1) (.string e.nm) = Ey n (fun j => if j = k then e else E j) := by
  unfold Ey
  refine flat2_ext (by rw [List.length_set, List.length_set, flat2_length]) (fun j hj => ?_)
  have h := flat2_get (f := fun k => Value.int .i64 (E k).ino) (g := fun k => Value.string (E k).nm) n j hj
  have hl := flat2_length (f := fun k => Value.int .i64 (E k).ino) (g := fun k => Value.string (E k).nm) n
  rw [List.getElem?_set, List.getElem?_set, List.getElem?_set, List.getElem?_set]
  by_cases e : j = k
  · subst e
    rw [if_neg (by omega), if_pos rfl, if_pos (by rw [hl]; omega), if_pos rfl, if_pos (by rw [List.length_set, hl]; omega)]
    simp
  · rw [if_neg (by omega), if_neg (by omega), if_neg (by omega), if_neg (by omega)]
    simp only [if_neg e]
    exact h
theorem PaAt_of {W : World} {B : Nat} {x : NoV} (h : OwN W B x.bn x) (hb : ∀ k, k < x.bn → ∀ u ∈ (x.P k).xs, 0 ≤ u ∧ u ≤ 255) : PaAt W x.bo x.bn x.P := fun hn => by
  obtain ⟨g, c', e, -, hl, hg, -⟩ := owns_some h.parts hn
  unfold blV at e
  injection e with e1 e2 e3
  refine ⟨g, 0, e1, hl, fun j hj => ⟨?_, ?_, ?_⟩⟩
  · rw [Nat.zero_add, (owns_cellG h.parts hg (j * 2) (by omega)).1, (owns_cellG h.parts hg (j * 2 + 1) (by omega)).1]
    exact flat2_get _ j hj
  · obtain ⟨ao, c, hv, hB, _⟩ := owns_BAt (h.data j hj)
    unfold daV at hv
    injection hv with e4 e5 e6
    rw [e4]
    exact hB
  · have hd := h.data j hj
    refine ⟨?_, ?_, ?_, hb j hj⟩
    all_goals
      rcases hd.2 with ⟨hv, h0⟩ | ⟨g2, cap, cur, hv, -, -, hnc, hm, -⟩
      all_goals
        unfold daV at hv
        injection hv with e4 e5 e6
        unfold maxLen at *
        first
          | omega
          | (intro e7; first | (rw [e4] at e7; cases e7) | exact ⟨by omega, by omega⟩)
theorem NuM.NoAt {B m : Nat} {ao : Option Addr} {c : Nat} {L : List NoV} {W : World} (h : NuM B m (.slice ao m c) L (fun i => (L.getD i noZ).E) W) (hS : NuS m L) : NoAt W ao m (atN L) :=
  ownsN_NoAt h.row (fun j hj => ⟨PaAt_of (x := setE (L.getD j noZ) (L.getD j noZ).E) (h.own j hj) (hS.by' j hj), EnAt_of (h.own j hj).slots, hS.wf j hj⟩)
/-- Rows of ints of one's own. -/
def Iz (L : List Nat) : List Value := L.map (fun (t : Nat) => Value.int .i64 ((t : Nat) : Int))
theorem infoI : (Try.prog.info? 3).map (fun i => (i.zero, i.size, i.bytes)) = some (some (.int .i64 0), 1, 8) := by kernel_rfl
theorem appendZ_run (W : World) (B : Nat) (v : Value) (L : List Nat) (p : Nat) (hown : W.ownsRow B 3 1 v L.length (Iz L)) (hB : B ≤ W.heap.size) (hn : L.length ≤ 16777216) :
    ∃ v' W', (Builtin.append_ #[65, 65] 65 #[v, .slice (some ⟨W.heap.size, 0, none⟩) 1 1]).run Try.prog (W.alloc (.cells #[.int .i64 (p : Int)] 3)) = .ok v' W' ∧ W'.ownsRow B 3 1 v' (L ++ [p]).length (Iz (L ++ [p])) ∧ (W.alloc (.cells #[.int .i64 (p : Int)] 3)).grownBy W' v.ownBlock := by
  obtain ⟨i0, hi, hz0, hz1, hz2⟩ := info_parts infoI
  have hnew := blk_new W (.cells #[.int .i64 (p : Int)] 3)
  obtain ⟨v3, W3, hr, hown3, hg3, _, hat⟩ := run_append_own_at (P := Try.prog) (W.alloc (.cells #[.int .i64 (p : Int)] 3)) B 65 65 3 i0 (.int .i64 0) 1 8 Try.underlying65 hi hz0 hz1 hz2 rfl (by decide) v L.length (Iz L) (hown.alloc _) ⟨W.heap.size, 0, none⟩ 1 1 [.int .i64 (p : Int)] rfl (fun j u hj => by
    match j, hj with
    | 0, hj => cases hj; rw [add_at, blk_cell hnew]; rfl) (fun u hu => by simp at hu; subst hu; rfl) (by unfold maxLen; omega) (by omega) (by simp; omega)
  have e : Iz L ++ [.int .i64 (p : Int)] = Iz (L ++ [p]) := by simp [Iz]
  rw [e] at hown3
  exact ⟨v3, W3, hr, by rw [List.length_append]; exact hown3, hg3⟩
theorem Iz_get (L : List Nat) (k : Nat) (hk : k < L.length) : (Iz L)[k]? = some (.int .i64 ((L.getD k 0 : Nat) : Int)) := by
  simp [Iz, List.getD, List.getElem?_eq_getElem hk]
end Go.Proofs.Ytbahbhaoimabdaa
namespace Go.Proofs.Ytbahbhaoimabdaa
open Go Go.Proofs Go.RowKit Go.Shelf
open Go.ChangeMaps (setBlock heap_setBlock_same heap_setBlock_other)

theorem NuM.kept {B m : Nat} {v : Value} {L : List NoV} {X : Nat → Nat → EnV} {W W' : World} (h : NuM B m v L X W) (hk : ∀ g cs (t : TypeId), W.heap[g]? = some (.cells cs t (0, 0)) → t ≠ 3 → (t = 39 → v.ownBlock = some g) → W'.heap[g]? = W.heap[g]?) : NuM B m v L X W' := by
  refine ⟨owns_at h.row (fun g e => ?_), fun i hi => ⟨owns_at (h.own i hi).slots (fun g e => ?_), owns_at (h.own i hi).parts (fun g e => ?_), fun k hk' => owns_at ((h.own i hi).data k hk') (fun g e => ?_)⟩⟩
  · obtain ⟨-, -, cs2, h2⟩ := owns_kind h.row g e
    exact hk g _ _ h2 (by decide) (fun _ => e)
  · obtain ⟨-, -, cs2, h2⟩ := owns_kind (h.own i hi).slots g e
    exact hk g _ _ h2 (by decide) (fun h => absurd h (by decide))
  · obtain ⟨-, -, cs2, h2⟩ := owns_kind (h.own i hi).parts g e
    exact hk g _ _ h2 (by decide) (fun h => absurd h (by decide))
  · obtain ⟨-, -, cs2, h2⟩ := owns_kind ((h.own i hi).data k hk') g e
    exact hk g _ _ h2 (by decide) (fun h => absurd h (by decide))
structure NuJ (w0 : World) (B m : Nat) (v : Value) (L : List NoV) (pb nb : Nat) (X : Nat → Nat → EnV) (Rn R : List Nat) (rv : Value) (O : List NoV) (ov : Value) (W : World) : Prop where
  mem : NuM B m v L X W
  plc : ∃ c, MAt W 3 pb c (plcF m (atN L) m)
  num : MAt W 3 nb Rn.length (numF m (atN L) Rn)
  row : W.ownsRow B 3 1 rv R.length (Iz R)
  out : W.ownsRow B 39 6 ov O.length (Ny O)
  ne : pb ≠ nb
  one : ∀ g, v.ownBlock = some g → ov.ownBlock ≠ some g
  hi : B ≤ nb
  bel : Below B w0 W
section
variable {w0 : World} {B m : Nat} {v : Value} {L : List NoV} {pb nb : Nat} {X : Nat → Nat → EnV} {Rn R : List Nat} {rv : Value} {O : List NoV} {ov : Value} {W W' : World}
theorem NuJ.blw (h : NuJ w0 B m v L pb nb X Rn R rv O ov W) (hB : Below W.heap.size W W') : NuJ w0 B m v L pb nb X Rn R rv O ov W' := by
  obtain ⟨c, hc⟩ := h.plc
  exact ⟨h.mem.blw hB, ⟨c, hc.kept (hB.block _ hc.lt)⟩, h.num.kept (hB.block _ h.num.lt), owns_at h.row (fun g e => hB.block g (owns_kind h.row g e).2.1), owns_at h.out (fun g e => hB.block g (owns_kind h.out g e).2.1), h.ne, h.one, h.hi, ⟨hB.os.trans h.bel.os, hB.tape.trans h.bel.tape, hB.output.trans h.bel.output, Nat.le_trans h.bel.size hB.size, fun k hk => (hB.block k (by have := h.num.lt; have := h.hi; omega)).trans (h.bel.block k hk)⟩⟩
theorem map_ne {b n : Nat} {f : Lit → Option Value} (h : MAt W 3 b n f) {g : Nat} {cs} {t : TypeId} {z} (hg : W.heap[g]? = some (.cells cs t z)) : b ≠ g := by
  intro e
  subst e
  obtain ⟨es, cl, h1⟩ := h.isMap
  rw [h1] at hg
  cases hg
theorem ty_ne {g g' : Nat} {cs cs'} {t t' : TypeId} {z z'} (h : W.heap[g]? = some (.cells cs t z)) (h' : W.heap[g']? = some (.cells cs' t' z')) (hne : t ≠ t') : g ≠ g' := by
  intro e
  subst e
  rw [h] at h'
  have := Option.some.inj h'
  injection this with _ e2 _
  exact hne e2
/-- A slot is written. -/
theorem NuJ.slot (h : NuJ w0 B m v L pb nb X Rn R rv O ov W) (hS : NuS m L) {p gs : Nat} (hp : p < m) (hg : (slV (L.getD p noZ)).ownBlock = some gs) (hW : ∀ g, g ≠ gs → W'.heap[g]? = W.heap[g]?) (hb : Below gs W W') {E : Nat → EnV}
    (hn : W'.ownsRow B 41 2 (slV (L.getD p noZ)) (L.getD p noZ).sn (Ey (L.getD p noZ).sn E)) : NuJ w0 B m v L pb nb (updX X p E) Rn R rv O ov W' := by
  obtain ⟨hB, -, cs, hk⟩ := owns_kind (h.mem.own p hp).slots gs hg
  obtain ⟨c, hc⟩ := h.plc
  refine ⟨h.mem.put hS hp hg hW hn, ⟨c, hc.kept (hW _ (map_ne hc hk))⟩, h.num.kept (hW _ (map_ne h.num hk)), owns_at h.row (fun g e => ?_), owns_at h.out (fun g e => ?_), h.ne, h.one, h.hi, h.bel.trans (hb.mono hB)⟩
  · obtain ⟨-, -, cs2, h2⟩ := owns_kind h.row g e
    exact hW g (ty_ne h2 hk (by decide))
  · obtain ⟨-, -, cs2, h2⟩ := owns_kind h.out g e
    exact hW g (ty_ne h2 hk (by decide))
/-- A number is set. -/
theorem NuJ.nums (h : NuJ w0 B m v L pb nb X Rn R rv O ov W) (hW : ∀ g, g ≠ nb → W'.heap[g]? = W.heap[g]?) (hb : Below nb W W') {Rm : List Nat} (hn : MAt W' 3 nb Rm.length (numF m (atN L) Rm)) : NuJ w0 B m v L pb nb X Rm R rv O ov W' := by
  obtain ⟨c, hc⟩ := h.plc
  refine ⟨h.mem.kept (fun g cs t hg _ _ => hW g (fun e => map_ne h.num hg e.symm)), ⟨c, hc.kept (hW _ h.ne)⟩, hn, owns_at h.row (fun g e => ?_), owns_at h.out (fun g e => ?_), h.ne, h.one, h.hi, h.bel.trans (hb.mono h.hi)⟩
  · obtain ⟨-, -, cs2, h2⟩ := owns_kind h.row g e
    exact hW g (fun e => map_ne h.num h2 e.symm)
  · obtain ⟨-, -, cs2, h2⟩ := owns_kind h.out g e
    exact hW g (fun e => map_ne h.num h2 e.symm)
/-- The row grows. -/
theorem NuJ.rows (h : NuJ w0 B m v L pb nb X Rn R rv O ov W) {S : List Nat} {rv' : Value} (hn : W'.ownsRow B 3 1 rv' S.length (Iz S)) (hg : W.grownBy W' rv.ownBlock) : NuJ w0 B m v L pb nb X Rn S rv' O ov W' := by
  have hW : ∀ g, g < W.heap.size → rv.ownBlock ≠ some g → W'.heap[g]? = W.heap[g]? := fun g hl hne => hg.block g hl (fun e => hne e.symm)
  obtain ⟨c, hc⟩ := h.plc
  have hr : ∀ {g : Nat} {cs} {t : TypeId}, W.heap[g]? = some (.cells cs t (0, 0)) → t ≠ 3 → rv.ownBlock ≠ some g := fun hg' ht e => by
    obtain ⟨-, -, cs2, h2⟩ := owns_kind h.row _ e
    exact ty_ne h2 hg' (fun e => ht e.symm) rfl
  have hm : ∀ {b n : Nat} {f : Lit → Option Value}, MAt W 3 b n f → rv.ownBlock ≠ some b := fun hb e => by
    obtain ⟨-, -, cs2, h2⟩ := owns_kind h.row _ e
    exact map_ne hb h2 rfl
  refine ⟨h.mem.kept (fun g cs t hg' ht _ => hW g (lt_of_block hg') (hr hg' ht)), ⟨c, hc.kept (hW _ hc.lt (hm hc))⟩, h.num.kept (hW _ h.num.lt (hm h.num)), hn, owns_at h.out (fun g e => ?_), h.ne, h.one, h.hi, h.bel.grown hg (by have := h.num.lt; have := h.hi; omega) (fun k hk => (owns_kind h.row k hk).1)⟩
  obtain ⟨-, h3, cs2, h2⟩ := owns_kind h.out g e
  exact hW g h3 (hr h2 (by decide))
/-- A node is told. -/
theorem NuJ.outs (h : NuJ w0 B m v L pb nb X Rn R rv O ov W) {P : List NoV} {ov' : Value} (hn : W'.ownsRow B 39 6 ov' P.length (Ny P)) (hg : W.grownBy W' ov.ownBlock) (hv : ov'.ownBlock = ov.ownBlock ∨ ∀ k, ov'.ownBlock = some k → W.heap.size ≤ k) : NuJ w0 B m v L pb nb X Rn R rv P ov' W' := by
  have hW : ∀ g, g < W.heap.size → ov.ownBlock ≠ some g → W'.heap[g]? = W.heap[g]? := fun g hl hne => hg.block g hl (fun e => hne e.symm)
  obtain ⟨c, hc⟩ := h.plc
  have hr : ∀ {g : Nat} {cs} {t : TypeId}, W.heap[g]? = some (.cells cs t (0, 0)) → t ≠ 39 → ov.ownBlock ≠ some g := fun hg' ht e => by
    obtain ⟨-, -, cs2, h2⟩ := owns_kind h.out _ e
    exact ty_ne h2 hg' (fun e => ht e.symm) rfl
  have hm : ∀ {b n : Nat} {f : Lit → Option Value}, MAt W 3 b n f → ov.ownBlock ≠ some b := fun hb e => by
    obtain ⟨-, -, cs2, h2⟩ := owns_kind h.out _ e
    exact map_ne hb h2 rfl
  refine ⟨h.mem.kept (fun g cs t hg' ht hN => hW g (lt_of_block hg') ?_), ⟨c, hc.kept (hW _ hc.lt (hm hc))⟩, h.num.kept (hW _ h.num.lt (hm h.num)), owns_at h.row (fun g e => ?_), hn, h.ne, ?_, h.hi, h.bel.grown hg (by have := h.num.lt; have := h.hi; omega) (fun k hk => (owns_kind h.out k hk).1)⟩
  · by_cases e : t = 39
    · exact h.one g (hN e)
    · exact hr hg' e
  · obtain ⟨-, h3, cs2, h2⟩ := owns_kind h.row g e
    exact hW g h3 (hr h2 (by decide))
  · intro g h1 h2
    rcases hv with hv | hv
    · exact h.one g h1 (hv ▸ h2)
    · have := (owns_kind h.mem.row g h1).2.1
      have := hv g h2
      omega
theorem Ey_congr {n : Nat} {E F : Nat → EnV} (h : ∀ j, j < n → E j = F j) : Ey n E = Ey n F := by
  unfold Ey
  induction n with
  | zero => rfl
  | succ n ih =>
    rw [List.range_succ, List.flatMap_append, List.flatMap_append, ih (fun j hj => h j (by omega))]
    simp [h n (by omega)]
theorem Ey_get (n : Nat) (E : Nat → EnV) (k : Nat) (hk : k < n) : (Ey n E)[k * 2]? = some (.int .i64 (E k).ino) ∧ (Ey n E)[k * 2 + 1]? = some (.string (E k).nm) := flat2_get n k hk
theorem NuJ.say (h : NuJ w0 B m v L pb nb X Rn R rv O ov W) {Y : Nat → Nat → EnV} (he : ∀ i, i < m → ∀ j, j < (L.getD i noZ).sn → X i j = Y i j) : NuJ w0 B m v L pb nb Y Rn R rv O ov W := by
  refine ⟨⟨h.mem.row, fun i hi => ⟨?_, (h.mem.own i hi).parts, (h.mem.own i hi).data⟩⟩, h.plc, h.num, h.row, h.out, h.ne, h.one, h.hi, h.bel⟩
  have h1 := (h.mem.own i hi).slots
  have e : Ey (setE (L.getD i noZ) (X i)).sn (setE (L.getD i noZ) (X i)).E = Ey (setE (L.getD i noZ) (Y i)).sn (setE (L.getD i noZ) (Y i)).E := Ey_congr (he i hi)
  rw [e] at h1
  exact h1
end
/-- One more slot is done. -/
theorem NuJ.both {w0 : World} {B m : Nat} {v : Value} {L : List NoV} {pb nb : Nat} {X : Nat → Nat → EnV} {Rn R : List Nat} {rv : Value} {O : List NoV} {ov : Value} {W : World} {p q gs : Nat} {F : Nat → EnV} (h : NuJ w0 B m v L pb nb (updX X p F) Rn R rv O ov W) (hS : NuS m L) (hp : p < m) (hg : (slV (L.getD p noZ)).ownBlock = some gs) (hq : q < (L.getD p noZ).sn) (e : EnV) {G : Nat → EnV} (hG : ∀ j, j < (L.getD p noZ).sn → (if j = q then e else F j) = G j) :
    NuJ w0 B m v L pb nb (updX X p G) Rn R rv O ov ((W.setCell ⟨gs, q * 2, none⟩ (.int .i64 e.ino)).setCell ⟨gs, q * 2 + 1, none⟩ (.string e.nm)) := by
  have h1 := (h.mem.own p hp).slots
  have e1 : updX X p F p = F := if_pos rfl
  rw [e1] at h1
  have h1' : W.ownsRow B 41 2 (slV (L.getD p noZ)) (L.getD p noZ).sn (Ey (L.getD p noZ).sn F) := h1
  have h2 := owns_setG (owns_setG h1' hg (q * 2) (.int .i64 e.ino)) hg (q * 2 + 1) (.string e.nm)
  rw [Ey_set _ _ q hq e] at h2
  have h3 := h.slot hS hp hg (fun k hk => (Below.heap_setCell _ _ _ _ hk).trans (Below.heap_setCell _ _ _ _ hk)) (((Below.refl gs W).setCell (Nat.le_refl _) _).setCell (Nat.le_refl _) _) h2
  refine h3.say (fun i hi j hj => ?_)
  unfold updX
  by_cases e : i = p
  · subst e
    rw [if_pos rfl, if_pos rfl]
    exact hG j hj
  · rw [if_neg e, if_neg e, if_neg e]
theorem Ey_set1 (n : Nat) (E : Nat → EnV) (k : Nat) (hk : k < n) (i : Int) : (Ey n E).set (k * 2) (.int .i64 i) = Ey n (fun j => if j = k then ⟨i, (E k).nm⟩ else E j) := by
  unfold Ey
  refine flat2_ext (by rw [List.length_set, flat2_length]) (fun j hj => ?_)
  have h := flat2_get (f := fun k => Value.int .i64 (E k).ino) (g := fun k => Value.string (E k).nm) n j hj
  have hl := flat2_length (f := fun k => Value.int .i64 (E k).ino) (g := fun k => Value.string (E k).nm) n
  rw [List.getElem?_set, List.getElem?_set]
  by_cases e : j = k
  · subst e
    rw [if_pos rfl, if_pos (by rw [hl]; omega), if_neg (by omega)]
    simp
    exact h.2
  · rw [if_neg (by omega), if_neg (by omega)]
    simp only [if_neg e]
    exact h
theorem NuJ.ino {w0 : World} {B m : Nat} {v : Value} {L : List NoV} {pb nb : Nat} {X : Nat → Nat → EnV} {Rn R : List Nat} {rv : Value} {O : List NoV} {ov : Value} {W : World} {p q gs : Nat} {F : Nat → EnV} (h : NuJ w0 B m v L pb nb (updX X p F) Rn R rv O ov W) (hS : NuS m L) (hp : p < m) (hg : (slV (L.getD p noZ)).ownBlock = some gs) (hq : q < (L.getD p noZ).sn) (i : Int) {G : Nat → EnV} (hG : ∀ j, j < (L.getD p noZ).sn → (if j = q then ⟨i, (F q).nm⟩ else F j) = G j) :
    NuJ w0 B m v L pb nb (updX X p G) Rn R rv O ov (W.setCell ⟨gs, q * 2, none⟩ (.int .i64 i)) := by
  have h1 := (h.mem.own p hp).slots
  have e1 : updX X p F p = F := if_pos rfl
  rw [e1] at h1
  have h1' : W.ownsRow B 41 2 (slV (L.getD p noZ)) (L.getD p noZ).sn (Ey (L.getD p noZ).sn F) := h1
  have h2 := owns_setG h1' hg (q * 2) (.int .i64 i)
  rw [Ey_set1 _ _ q hq i] at h2
  have h3 := h.slot hS hp hg (fun k hk => Below.heap_setCell _ _ _ _ hk) ((Below.refl gs W).setCell (Nat.le_refl _) _) h2
  refine h3.say (fun i hi j hj => ?_)
  unfold updX
  by_cases e : i = p
  · subst e
    rw [if_pos rfl, if_pos rfl]
    exact hG j hj
  · rw [if_neg e, if_neg e, if_neg e]
theorem numE_none {m : Nat} {Nd : Nat → NoV} {E : Nat → EnV} {R : List Nat} {k : Nat} (h : leadS m Nd (E k) = none) : numE m Nd E R k = enZ ∧ rowS m Nd E R (k + 1) = rowS m Nd E R k := by
  unfold numE
  rw [rowS]
  unfold numStep
  rw [h]
  exact ⟨rfl, rfl⟩
theorem numE_old {m : Nat} {Nd : Nat → NoV} {E : Nat → EnV} {R : List Nat} {k t : Nat} (h : leadS m Nd (E k) = some t) (ht : t ∈ rowS m Nd E R k) : numE m Nd E R k = ⟨(((rowS m Nd E R k).idxOf t : Nat) : Int) + 1, (E k).nm⟩ ∧ rowS m Nd E R (k + 1) = rowS m Nd E R k := by
  unfold numE
  rw [rowS]
  unfold numStep numT
  rw [h]
  dsimp only
  rw [if_pos ht]
  exact ⟨rfl, rfl⟩
theorem numE_new {m : Nat} {Nd : Nat → NoV} {E : Nat → EnV} {R : List Nat} {k t : Nat} (h : leadS m Nd (E k) = some t) (ht : t ∉ rowS m Nd E R k) : numE m Nd E R k = ⟨((rowS m Nd E R k).length : Int) + 1, (E k).nm⟩ ∧ rowS m Nd E R (k + 1) = rowS m Nd E R k ++ [t] := by
  unfold numE
  rw [rowS]
  unfold numStep numT
  rw [h]
  dsimp only
  rw [if_neg ht]
  exact ⟨rfl, rfl⟩
theorem numF_old {m : Nat} {Nd : Nat → NoV} {R : List Nat} {k : Int} {t : Nat} (h : firstN m Nd k = some t) (ht : t ∈ R) : numF m Nd R (.int .i64 k) = some (.int .i64 (((R.idxOf t : Nat) : Int) + 1)) := by simp [numF, h, ht]
theorem numF_new {m : Nat} {Nd : Nat → NoV} {R : List Nat} {k : Int} {t : Nat} (h : firstN m Nd k = some t) (ht : t ∉ R) : numF m Nd R (.int .i64 k) = none := by simp [numF, h, ht]
theorem numF_last {m : Nat} {Nd : Nat → NoV} {R : List Nat} {k : Int} {t : Nat} (h : firstN m Nd k = some t) (ht : t ∉ R) : numF m Nd (R ++ [t]) (.int .i64 k) = some (.int .i64 ((R.length : Int) + 1)) := by
  rw [numF_old h (by simp), List.idxOf_append, if_neg ht]
  simp
theorem NuJ.slotsP {w0 : World} {B m : Nat} {v : Value} {L : List NoV} {pb nb : Nat} {X : Nat → Nat → EnV} {Rn R : List Nat} {rv : Value} {O : List NoV} {ov : Value} {W : World} {p : Nat} {F : Nat → EnV} (h : NuJ w0 B m v L pb nb (updX X p F) Rn R rv O ov W) (hp : p < m) : W.ownsRow B 41 2 (slV (L.getD p noZ)) (L.getD p noZ).sn (Ey (L.getD p noZ).sn F) := by
  have h1 := (h.mem.own p hp).slots
  have e1 : updX X p F p = F := if_pos rfl
  rw [e1] at h1
  exact h1
/-- A block that is none of the row's stays. -/
theorem grown_at {W W' : World} {rv : Value} {B n : Nat} {xs : List Value} (hg : W.grownBy W' rv.ownBlock) (hr : W.ownsRow B 3 1 rv n xs) {b : Nat} {cs} {t : TypeId} (hb : W.heap[b]? = some (.cells cs t (0, 0))) (ht : t ≠ 3) : W'.heap[b]? = some (.cells cs t (0, 0)) := by
  refine (hg.block b (lt_of_block hb) (fun e => ?_)).trans hb
  obtain ⟨-, -, cs2, h2⟩ := owns_kind hr b e.symm
  exact ty_ne h2 hb (fun e => ht e.symm) rfl
theorem next_if {q j : Nat} {E F : Nat → EnV} {e : EnV} (he : E q = e) : (if j = q then e else if j < q then E j else F j) = if j < q + 1 then E j else F j := by
  by_cases h1 : j = q
  · subst h1
    rw [if_pos rfl, if_pos (by omega), he]
  · rw [if_neg h1]
    by_cases h2 : j < q
    · rw [if_pos h2, if_pos (by omega)]
    · rw [if_neg h2, if_neg (by omega)]
/-- The a-th place that is reached, and its node anew. -/
def pN (m : Nat) (Nd : Nat → NoV) (r a : Nat) : Nat := (rowN m Nd r a).getD a 0
def outN (m : Nat) (Nd : Nat → NoV) (r a : Nat) : NoV := { Nd (pN m Nd r a) with ino := (a : Int) + 1, E := numE m Nd (Nd (pN m Nd r a)).E (rowN m Nd r a) }
theorem pN_at {m : Nat} {Nd : Nat → NoV} {r a b : Nat} (hr : r < m) (h : a ≤ b) (ha : a < (rowN m Nd r a).length) : (rowN m Nd r b).getD a 0 = pN m Nd r a := prefix_getD (rowN_le hr h) ha
theorem pN_ne {m : Nat} {Nd : Nat → NoV} {r a k : Nat} (hr : r < m) (hk : k < a) (ha : a < (rowN m Nd r a).length) : pN m Nd r k ≠ pN m Nd r a := by
  have h1 : k < (rowN m Nd r k).length := by
    rcases Nat.lt_or_ge k (rowN m Nd r k).length with h | h
    · exact h
    · rw [rowN_done h a (by omega)] at ha
      omega
  have e1 := pN_at hr (Nat.le_of_lt hk) h1
  rw [← e1]
  unfold pN
  have h2 := (List.pairwise_iff_getElem.1 (rowN_ok (Nd := Nd) hr a).nodup) k a (by omega) ha hk
  rwa [List.getElem_eq_getD 0, List.getElem_eq_getD 0] at h2
/-- Between two nodes. -/
structure NuO (w0 : World) (B m : Nat) (v : Value) (L : List NoV) (pb nb r a : Nat) (X : Nat → Nat → EnV) (rv ov : Value) (W : World) : Prop where
  j : NuJ w0 B m v L pb nb X (rowN m (atN L) r a) (rowN m (atN L) r a) rv ((List.range a).map (outN m (atN L) r)) ov W
  done : ∀ k, k < a → X (pN m (atN L) r k) = (outN m (atN L) r k).E
  rest : ∀ i, (∀ k, k < a → pN m (atN L) r k ≠ i) → X i = (L.getD i noZ).E
  le : a ≤ (rowN m (atN L) r a).length
theorem NuO.blw {w0 : World} {B m : Nat} {v : Value} {L : List NoV} {pb nb r a : Nat} {X : Nat → Nat → EnV} {rv ov : Value} {W W' : World} (h : NuO w0 B m v L pb nb r a X rv ov W) (hB : Below W.heap.size W W') : NuO w0 B m v L pb nb r a X rv ov W' := ⟨h.j.blw hB, h.done, h.rest, h.le⟩
theorem rowN_next {m : Nat} {Nd : Nat → NoV} {r a : Nat} (h : a < (rowN m Nd r a).length) : rowN m Nd r (a + 1) = rowS m Nd (Nd (pN m Nd r a)).E (rowN m Nd r a) (Nd (pN m Nd r a)).sn := by
  rw [rowN, if_pos h]
  rfl
/-- A node is told. -/
theorem NuO.next {w0 : World} {B m : Nat} {v : Value} {L : List NoV} {pb nb r a : Nat} {X : Nat → Nat → EnV} {rv ov rv0 ov' : Value} {W0 W W' : World} (h : NuO w0 B m v L pb nb r a X rv0 ov W0) (hr : r < m) (ha : a < (rowN m (atN L) r a).length)
    (hj : NuJ w0 B m v L pb nb (updX X (pN m (atN L) r a) (fun j => if j < (atN L (pN m (atN L) r a)).sn then numE m (atN L) (atN L (pN m (atN L) r a)).E (rowN m (atN L) r a) j else (atN L (pN m (atN L) r a)).E j)) (rowN m (atN L) r (a + 1)) (rowN m (atN L) r (a + 1)) rv ((List.range a).map (outN m (atN L) r)) ov W)
    (hn : W'.ownsRow B 39 6 ov' (a + 1) (Ny ((List.range a).map (outN m (atN L) r) ++ [outN m (atN L) r a]))) (hg : W.grownBy W' ov.ownBlock) (hv : ov'.ownBlock = ov.ownBlock ∨ ∀ k, ov'.ownBlock = some k → W.heap.size ≤ k) :
    NuO w0 B m v L pb nb r (a + 1) (updX X (pN m (atN L) r a) (outN m (atN L) r a).E) rv ov' W' := by
  have e1 : (List.range (a + 1)).map (outN m (atN L) r) = (List.range a).map (outN m (atN L) r) ++ [outN m (atN L) r a] := by rw [List.range_succ, List.map_append]; rfl
  refine ⟨?_, fun k hk => ?_, fun i hi => ?_, ?_⟩
  · rw [e1]
    have h1 := hj.say (Y := updX X (pN m (atN L) r a) (outN m (atN L) r a).E) (fun i _ j hj => by
      unfold updX
      by_cases e : i = pN m (atN L) r a
      · subst e
        rw [if_pos rfl, if_pos rfl, if_pos (show j < (atN L (pN m (atN L) r a)).sn from hj)]
        rfl
      · rw [if_neg e, if_neg e])
    exact h1.outs (by rw [List.length_append, List.length_map, List.length_range]; exact hn) hg hv
  · unfold updX
    by_cases e : k = a
    · subst e
      rw [if_pos rfl]
    · rw [if_neg (pN_ne hr (show k < a by omega) ha)]
      exact h.done k (by omega)
  · unfold updX
    rw [if_neg (fun e => hi a (by omega) e.symm)]
    exact h.rest i (fun k hk => hi k (by omega))
  · have := (rowN_step (Nd := atN L) hr a).length_le
    omega
end Go.Proofs.Ytbahbhaoimabdaa
namespace Go.Proofs.Ytbahbhaoimabdaa
open Go Go.Proofs Go.RowKit Go.Shelf
open Go.ChangeMaps (setBlock heap_setBlock_same heap_setBlock_other)

theorem run_makeMap_none (w : World) : (Instr.makeMap 74 none).run Try.prog w = .ok (.map (some w.heap.size)) (w.alloc (.map #[] 0)) := by
  simp [Instr.makeMap, Result.andThen]
theorem below_set (W : World) (b : Nat) (o : Obj) : Below b W (setBlock W b o) := ⟨rfl, rfl, rfl, by simp [setBlock], fun k hk => heap_set_other (by omega)⟩
/-- A map of one entry. -/
theorem insert_one (W : World) : ∃ o, (Instr.mapUpdate 74 (.map (some W.heap.size)) (.int .i64 1) (.int .i64 1)).run Try.prog (W.alloc (.map #[] 0)) = .ok () (setBlock (W.alloc (.map #[] 0)) W.heap.size o) ∧ MAt (setBlock (W.alloc (.map #[] 0)) W.heap.size o) 3 W.heap.size 1 (updF (fun _ => none) (.int .i64 1) (some (.int .i64 1))) := by
  obtain ⟨o, hr, hm⟩ := (MAt.new W 3).put keyed3 Try.underlying74 (by unfold maxLen; omega) (val := .int .i64 1) (Maps.keyOf_int_mk Try.underlying3 (show (Lit.int .i64 1).wf = true from rfl))
  exact ⟨o, hr, hm⟩
theorem numF_one {m : Nat} {Nd : Nat → NoV} {r : Nat} (h : firstN m Nd 1 = some r) (kl : Lit) : updF (fun _ => none) (.int .i64 1) (some (.int .i64 1)) kl = numF m Nd [r] kl := by
  by_cases e : kl = .int .i64 1
  · subst e
    rw [upd_same]
    simp [numF, h]
  · rw [upd_other _ _ e]
    cases kl with
    | int ik k' =>
      cases ik <;> try rfl
      unfold numF
      dsimp only
      cases hq : firstN m Nd k' with
      | none => rfl
      | some t' =>
        have hne : t' ≠ r := fun e2 => by
          subst e2
          have h1 := (firstN_some hq).2
          have h2 := (firstN_some h).2
          exact e (by rw [← h1, ← h2])
        simp [Option.bind, hne]
    | _ => rfl
set_option maxRecDepth 100000 in
set_option maxHeartbeats 4000000 in
theorem number_none (w0 : World) (B m : Nat) (ao : Option Addr) (cc : Nat) (L : List NoV) (hM : NuM B m (.slice ao m cc) L (fun i => (L.getD i noZ).E) w0) (hS : NuS m L) (h0 : firstN m (atN L) 1 = none) : Calls Try.prog 27 #[.slice ao m cc] w0 fun e w' => e = .returned (.slice none 0 0) ∧ Below w0.heap.size w0 w' := by
  have HP := Hid.mk (places_any w0 ao m cc _ (hM.NoAt hS) (by have := hS.small; omega))
  have H0 := Hid.mk h0
  clear hM hS h0
  go_enter Try.func27, Try.ntmps27
  go_wp2_with (first | (go_at_call 37; refine HP.out.mono ?_; rintro e w1 ⟨rfl, ⟨c, hm⟩, hB1⟩; have HLK := Hid.mk (hm.look2 keyed3 Try.underlying74 (zero_int w1) (Maps.keyOf_int_mk Try.underlying3 (show (Lit.int .i64 1).wf = true from rfl))); rw [plc_first, H0.out] at HLK; simp only [Option.map, Option.getD, Option.isSome] at HLK; have HBB := Hid.mk hB1; clear hm hB1) | (rw [HLK.out]; simp only [Result.andThen_ok]))
  refine bodyPost_ret (results_tmp rfl _ _ _) rfl ?_
  exact ⟨rfl, HBB.out⟩
set_option maxRecDepth 100000 in
set_option maxHeartbeats 4000000 in
theorem number_some (w0 : World) (B m : Nat) (ao : Option Addr) (cc : Nat) (L : List NoV) (hM : NuM B m (.slice ao m cc) L (fun i => (L.getD i noZ).E) w0) (hS : NuS m L) (hB : B ≤ w0.heap.size) (r : Nat) (h0 : firstN m (atN L) 1 = some r) : Calls Try.prog 27 #[.slice ao m cc] w0 fun e w' => ∃ ov k X pb nb rv, e = .returned ov ∧ k = (rowN m (atN L) r k).length ∧ NuO w0 B m (.slice ao m cc) L pb nb r k X rv ov w' := by
  have HP := Hid.mk (places_any w0 ao m cc _ (hM.NoAt hS) (by have := hS.small; omega))
  have H0 := Hid.mk h0
  have HM := Hid.mk hM
  have HS := Hid.mk hS
  have HB := Hid.mk hB
  clear hM hS h0 hB
  go_enter Try.func27, Try.ntmps27
  go_upto_region 6 with (first | (go_at_call 37; refine HP.out.mono ?_; rintro e w1 ⟨rfl, ⟨c, hm⟩, hB1⟩; have HLK := Hid.mk (hm.look2 keyed3 Try.underlying74 (zero_int w1) (Maps.keyOf_int_mk Try.underlying3 (show (Lit.int .i64 1).wf = true from rfl))); rw [plc_first, H0.out] at HLK; simp only [Option.map, Option.getD, Option.isSome] at HLK; have HMP := Hid.mk hm; have HBB := Hid.mk hB1; clear hm hB1) | (rw [HLK.out]; simp only [Result.andThen_ok]) | (rw [run_makeMap_none]; simp only [Result.andThen_ok]; obtain ⟨o, hri, hmi⟩ := insert_one (w1.alloc (.cells #[.int .i64 (r : Int)] 3)); simp only [World.size_alloc] at hri hmi; have HRI := Hid.mk hri; have HMI := Hid.mk hmi; clear hri hmi) | (rw [HRI.out]; simp only [Result.andThen_ok]))
  obtain ⟨w2, hw2⟩ : ∃ w2, w2 = setBlock ((w1.alloc (.cells #[.int .i64 (r : Int)] 3)).alloc (.map #[] 0)) (w1.heap.size + 1) o := ⟨_, rfl⟩
  have b12 : Below w1.heap.size w1 w2 := by rw [hw2]; exact (((Below.refl _ w1).alloc (Nat.le_refl _) _).alloc (by simp) _).trans ((below_set _ _ _).mono (by omega))
  have g2 : w2.heap[w1.heap.size]? = some (.cells #[.int .i64 (r : Int)] 3 (0, 0)) := by rw [hw2]; exact (heap_set_other (by omega)).trans ((Below.heap_alloc _ _ _ (by simp)).trans (blk_new w1 _))
  have hmi := HMI.out
  rw [← hw2] at hmi
  have hz0 := HMP.out.lt
  have hB0 := HB.out
  have HJ : Hid (NuO w0 B m (.slice ao m cc) L w0.heap.size (w1.heap.size + 1) r 0 (fun i => (L.getD i noZ).E) (.slice (some ⟨w1.heap.size, 0, none⟩) 1 1) (.slice none 0 0) w2) := Hid.mk
    ⟨⟨(HM.out.blw HBB.out).blw b12, ⟨c, HMP.out.kept (b12.block _ hz0)⟩, hmi.say (fun _ kl _ => numF_one H0.out kl), ⟨rfl, .inr ⟨w1.heap.size, 1, #[.int .i64 (r : Int)], rfl, by omega, g2, Nat.le_refl _, by decide, rfl, rfl⟩⟩, World.ownsRow_nil _ _ _ _, by omega, fun g _ e => (by cases e), by omega, (HBB.out.mono hB0).trans (b12.mono (by omega))⟩, fun k hk => absurd hk (Nat.not_lt_zero k), fun _ _ => rfl, Nat.zero_le _⟩
  have HRL : Hid (r < m) := Hid.mk (firstN_some H0.out).1
  rw [← hw2]
  clear hw2 b12 g2 hmi hz0 hB0 HMP HMI HRI HLK HBB HP HM
  generalize w1.heap.size + 1 = nb at *
  generalize w1.heap.size = z1 at *
  generalize w0.heap.size = pb at *
  have hst0 : (Value.slice (some ⟨z1, 0, none⟩) 1 1) = (Value.slice (some ⟨z1, 0, none⟩) (rowN m (atN L) r 0).length 1) := rfl
  have HST := Hid.mk hst0
  clear hst0
  have HM1 := Hid.mk HS.out.small
  go_wp2
  go_loopw [6, 8, 9] (fun rv ov iv wr => ∃ (a : Nat) (ra : Option Addr) (rc : Nat) (X : Nat → Nat → EnV), rv = .slice ra (rowN m (atN L) r a).length rc ∧ iv = .int .i64 (a : Int) ∧ Hid (NuO w0 B m (.slice ao m cc) L pb nb r a X rv ov wr)) (fun _ _ iv _ => ((m : Int) - Go.RowKit.intOf iv).toNat)
  case atStart => exact ⟨0, _, _, _, HST.out, rfl, HJ⟩
  case round =>
    obtain ⟨a, ra, rc, X, rfl, rfl, HK⟩ := hrel
    have hRm := (rowN_ok (Nd := atN L) HRL.out a).length
    have hm1 := HM1.out
    by_cases hlt : a < (rowN m (atN L) r a).length
    · have hpm : pN m (atN L) r a < m := (rowN_ok HRL.out a).lt _ (by
        have h1 : (rowN m (atN L) r a).getD a 0 = (rowN m (atN L) r a)[a] := (List.getElem_eq_getD 0).symm
        unfold pN
        rw [h1]
        exact List.getElem_mem _)
      obtain ⟨rg, rc', e, hbr, hrl, hro, -⟩ := owns_some HK.out.j.row (by omega)
      cases e
      have x0 : wr.cell? ⟨rg, a, none⟩ = some (.int .i64 ((pN m (atN L) r a : Nat) : Int)) := (owns_cellG HK.out.j.row hro a (by omega)).1.trans (Iz_get _ a hlt)
      obtain ⟨g, c', e, hbg, hgl, hgo, -⟩ := owns_some HK.out.j.mem.row (by omega)
      cases e
      have hpL : pN m (atN L) r a < L.length := by rw [HS.out.len]; exact hpm
      have hcell := fun i (hi : i < 6) => (owns_cellG HK.out.j.mem.row hgo (pN m (atN L) r a * 6 + i) (by omega)).1.trans (Ny_get L _ i hpL hi)
      have hsn := HS.out.sn _ hpm
      have hwf := HS.out.wf _ hpm
      have HPA : Hid (pN m (atN L) r a < m) := Hid.mk hpm
      have hpe : Hid (∃ x, x = L.getD (pN m (atN L) r a) noZ) := Hid.mk ⟨_, rfl⟩
      obtain ⟨x, hx⟩ := hpe.out
      obtain ⟨R, hR⟩ : ∃ R, R = rowN m (atN L) r a := ⟨_, rfl⟩
      obtain ⟨p, hp⟩ : ∃ p, p = pN m (atN L) r a := ⟨_, rfl⟩
      rw [← hx, ← hp] at hcell
      rw [← hx] at hsn hwf
      rw [← hp] at x0 hpm
      rw [← hR] at hRm hlt ⊢
      have y0 := hcell 0 (by omega)
      have y1 := hcell 1 (by omega)
      have y2 := hcell 2 (by omega)
      have y3 := hcell 3 (by omega)
      have y4 := hcell 4 (by omega)
      have y5 := hcell 5 (by omega)
      simp [noC] at y0 y1 y2 y3 y4 y5
      have ha0 : (0 : Int) ≤ (a : Int) := by omega
      have har : (a : Int) < (R.length : Int) := by omega
      have hp0 : (0 : Int) ≤ (p : Int) := by omega
      have hpi : (p : Int) < (m : Int) := by omega
      have haw : IntKind.i64.wrap ((a : Int) + 1) = (a : Int) + 1 := by rw [IntKind.wrap_i64]; omega
      have haw2 : IntKind.i64.wrap (1 + (a : Int)) = (a : Int) + 1 := by rw [IntKind.wrap_i64]; omega
      have HRP := Hid.mk (And.intro hR hp)
      have HX := Hid.mk hx
      have HXP : Hid (x = L.getD p noZ) := Hid.mk (by rw [hp]; exact hx)
      have HGO := Hid.mk hgo
      have HSW := Hid.mk (And.intro hsn hwf)
      clear hpe hx hR hp hbr hrl hro hbg hgl hgo hcell hpL hRm hsn hwf
      go_upto_region 12 with fail
      obtain ⟨X1, hX1⟩ : ∃ X1, X1 = wr.alloc (.cells #[.int .i64 ((a : Int) + 1), .int .i64 x.kind, .int .i64 x.links, .int .i64 x.size, .slice x.bo x.bn x.bc, .slice x.so x.sn x.sc] 39) := ⟨_, rfl⟩
      have hBX : Below wr.heap.size wr X1 := by rw [hX1]; exact (Below.refl _ wr).alloc (Nat.le_refl _) _
      have gX1 : X1.heap[wr.heap.size]? = some (.cells #[.int .i64 ((a : Int) + 1), .int .i64 x.kind, .int .i64 x.links, .int .i64 x.size, .slice x.bo x.bn x.bc, .slice x.so x.sn x.sc] 39 (0, 0)) := by rw [hX1]; exact blk_new wr _
      have hXp : X p = x.E := by
        rw [HRP.out.2, HX.out]
        exact HK.out.rest _ (fun k hk => pN_ne HRL.out hk (by rw [← HRP.out.1]; exact hlt))
      have HK1 := HK.out.blw hBX
      rw [← hX1]
      generalize hbx : wr.heap.size = bx at *
      have HI0 : Hid (NuJ w0 B m (.slice (some ⟨g, 0, none⟩) m cc) L pb nb (updX X p (fun j => if j < 0 then numE m (atN L) x.E R j else x.E j)) (rowS m (atN L) x.E R 0) (rowS m (atN L) x.E R 0) (.slice (some ⟨rg, 0, none⟩) (rowS m (atN L) x.E R 0).length rc) ((List.range a).map (outN m (atN L) r)) u8 X1 ∧ X1.heap[bx]? = some (.cells #[.int .i64 ((a : Int) + 1), .int .i64 x.kind, .int .i64 x.links, .int .i64 x.size, .slice x.bo x.bn x.bc, .slice x.so x.sn x.sc] 39 (0, 0))) := Hid.mk ⟨by
        have h1 := HK1.j.say (Y := updX X p (fun j => if j < 0 then numE m (atN L) x.E R j else x.E j)) (fun i hi j hj => by
          unfold updX
          by_cases e : i = p
          · subst e; rw [if_pos rfl, if_neg (by omega), hXp]
          · rw [if_neg e])
        rw [← HRP.out.1] at h1
        exact h1, gX1⟩
      have HST2 : Hid (Value.slice (some ⟨rg, 0, none⟩) R.length rc = Value.slice (some ⟨rg, 0, none⟩) (rowS m (atN L) x.E R 0).length rc) := Hid.mk rfl
      have c5 := blk_cell gX1 5
      simp at c5
      clear hX1 hBX gX1 HK1 hXp hbx x0 y0 y1 y2 y3 y4 y5
      go_wp2
      go_loopw [6, 47] (fun rv iv w5 => ∃ (q : Nat) (qa : Option Addr) (qc : Nat), rv = .slice qa (rowS m (atN L) x.E R q).length qc ∧ q ≤ x.sn ∧ iv = .int .i64 (q : Int) ∧ Hid (NuJ w0 B m (.slice (some ⟨g, 0, none⟩) m cc) L pb nb (updX X p (fun j => if j < q then numE m (atN L) x.E R j else x.E j)) (rowS m (atN L) x.E R q) (rowS m (atN L) x.E R q) rv ((List.range a).map (outN m (atN L) r)) u8 w5 ∧ w5.heap[bx]? = some (.cells #[.int .i64 ((a : Int) + 1), .int .i64 x.kind, .int .i64 x.links, .int .i64 x.size, .slice x.bo x.bn x.bc, .slice x.so x.sn x.sc] 39 (0, 0)))) (fun _ iv _ => ((x.sn : Int) - Go.RowKit.intOf iv).toNat)
      case atStart => exact ⟨0, _, _, HST2.out, by omega, rfl, HI0⟩
      case round =>
        clear HI0 HST2 c5 HST
        obtain ⟨q, qa, qc, rfl, hq, rfl, HK2⟩ := hrel
        by_cases hlq : q < x.sn
        · have hown : wr.ownsRow B 41 2 (slV x) x.sn (Ey x.sn (fun j => if j < q then numE m (atN L) x.E R j else x.E j)) := by
            have h1 := (HK2.out.1.mem.own p hpm).slots
            have e1 : updX X p (fun j => if j < q then numE m (atN L) x.E R j else x.E j) p = (fun j => if j < q then numE m (atN L) x.E R j else x.E j) := if_pos rfl
            rw [e1, ← HXP.out] at h1
            exact h1
          obtain ⟨gs, sc', e, hbs, hgsl, hso, -⟩ := owns_some hown (by omega)
          unfold slV at e
          injection e with e1 e2 e3
          have s0 := (owns_cellG hown hso (q * 2) (by omega)).1.trans (Ey_get x.sn _ q hlq).1
          have s1 := (owns_cellG hown hso (q * 2 + 1) (by omega)).1.trans (Ey_get x.sn _ q hlq).2
          rw [if_neg (Nat.lt_irrefl q)] at s0 s1
          obtain ⟨en, hen⟩ : ∃ en, en = x.E q := ⟨_, rfl⟩
          rw [← hen] at s0 s1
          have hq0 : (0 : Int) ≤ (q : Int) := by omega
          have hqs : (q : Int) < (x.sn : Int) := by omega
          have hqq : IntKind.i64.wrap ((q : Int) + 1) = (q : Int) + 1 := by have := HSW.out.1; rw [IntKind.wrap_i64]; omega
          have hew : (Lit.int .i64 en.ino).wf = true := by rw [hen]; exact HSW.out.2.2.2.2 q hlq
          have HEN := Hid.mk hen
          have HE1 := Hid.mk e1
          rw [e1]
          clear hen e1 e2 e3 hbs hgsl
          have HOV := Hid.mk (And.intro hown hso)
          clear hown hso
          go_upto_region 15 with fail
          obtain ⟨X5, hX5⟩ : ∃ X5, X5 = wr.alloc (.cells #[.int .i64 en.ino, .string en.nm] 41) := ⟨_, rfl⟩
          have hB5 : Below wr.heap.size wr X5 := by rw [hX5]; exact (Below.refl _ wr).alloc (Nat.le_refl _) _
          have g5 : X5.heap[wr.heap.size]? = some (.cells #[.int .i64 en.ino, .string en.nm] 41 (0, 0)) := by rw [hX5]; exact blk_new wr _
          have gb5 := (hB5.block bx (lt_of_block HK2.out.2)).trans HK2.out.2
          have hJ5 := HK2.out.1.blw hB5
          have d0 := blk_cell g5 0
          have b5 := blk_cell gb5 5
          simp at d0 b5
          rw [HE1.out] at b5
          obtain ⟨c3, hc3⟩ := hJ5.plc
          have HLK := Hid.mk (hc3.look2 keyed3 Try.underlying74 (zero_int X5) (Maps.keyOf_int_mk Try.underlying3 hew))
          rw [plc_first] at HLK
          have HOW := Hid.mk (And.intro (owns_at HOV.out.1 (w' := X5) (fun b e => hB5.block b (owns_kind HOV.out.1 b e).2.1)) HOV.out.2)
          have HJ5 := Hid.mk (And.intro hJ5 gb5)
          have HG5 := Hid.mk g5
          rw [← hX5]
          generalize hbe : wr.heap.size = be at *
          have HB5 := Hid.mk hB5
          clear hX5 hB5 g5 gb5 hJ5 hc3 hbe s0 s1 HOV
          have k0 := owns_cellG HOW.out.1 HOW.out.2 (q * 2) (by omega)
          have k1 := owns_cellG HOW.out.1 HOW.out.2 (q * 2 + 1) (by omega)
          rw [(Ey_get x.sn _ q hlq).1] at k0
          rw [(Ey_get x.sn _ q hlq).2] at k1
          have HBG : Hid (bx ≠ gs) := Hid.mk (by obtain ⟨-, -, cs2, h2⟩ := owns_kind HOW.out.1 gs HOW.out.2; exact ty_ne HJ5.out.2 h2 (by decide))
          obtain ⟨k0, k0f⟩ := k0
          obtain ⟨k1, k1f⟩ := k1
          cases hf : firstN m (atN L) en.ino with
          | none =>
            rw [hf] at HLK
            simp only [Option.map, Option.getD, Option.isSome] at HLK
            have HLD : Hid (leadS m (atN L) en = none) := Hid.mk (by unfold leadS; rw [hf]; split <;> rfl)
            by_cases h0 : en.ino = 0
            · have h0b : (en.ino == 0) = true := by simpa using h0
              rw [h0] at HLK d0
              go_wp2_with (rw [HLK.out]; simp only [Result.andThen_ok])
              obtain ⟨n1, n2⟩ := numE_none (R := R) (show leadS m (atN L) (x.E q) = none by rw [← HEN.out]; exact HLD.out)
              refine ⟨⟨q + 1, qa, qc, by rw [n2], hlq, by push_cast; rfl, Hid.mk ⟨?_, ?_⟩⟩, by simp [Go.RowKit.intOf]; omega⟩
              · rw [n2]
                exact HJ5.out.1.both HS.out hpm (by rw [← HXP.out]; exact HOW.out.2) (by rw [← HXP.out]; exact hlq) enZ (fun j hj => next_if n1)
              · rw [← HE1.out]
                exact (Below.heap_setCell _ _ _ _ HBG.out).trans ((Below.heap_setCell _ _ _ _ HBG.out).trans HJ5.out.2)
            · have h0b : (en.ino == 0) = false := by simpa using h0
              go_wp2_with (rw [HLK.out]; simp only [Result.andThen_ok])
              obtain ⟨n1, n2⟩ := numE_none (R := R) (show leadS m (atN L) (x.E q) = none by rw [← HEN.out]; exact HLD.out)
              refine ⟨⟨q + 1, qa, qc, by rw [n2], hlq, by push_cast; rfl, Hid.mk ⟨?_, ?_⟩⟩, by simp [Go.RowKit.intOf]; omega⟩
              · rw [n2]
                exact HJ5.out.1.both HS.out hpm (by rw [← HXP.out]; exact HOW.out.2) (by rw [← HXP.out]; exact hlq) enZ (fun j hj => next_if n1)
              · rw [← HE1.out]
                exact (Below.heap_setCell _ _ _ _ HBG.out).trans ((Below.heap_setCell _ _ _ _ HBG.out).trans HJ5.out.2)
          | some t =>
            rw [hf] at HLK
            simp only [Option.map, Option.getD, Option.isSome] at HLK
            by_cases h0 : en.ino = 0
            · have h0b : (en.ino == 0) = true := by simpa using h0
              have HLD : Hid (leadS m (atN L) en = none) := Hid.mk (by unfold leadS; rw [if_pos h0])
              rw [h0] at HLK d0
              go_wp2_with (rw [HLK.out]; simp only [Result.andThen_ok])
              obtain ⟨n1, n2⟩ := numE_none (R := R) (show leadS m (atN L) (x.E q) = none by rw [← HEN.out]; exact HLD.out)
              refine ⟨⟨q + 1, qa, qc, by rw [n2], hlq, by push_cast; rfl, Hid.mk ⟨?_, ?_⟩⟩, by simp [Go.RowKit.intOf]; omega⟩
              · rw [n2]
                exact HJ5.out.1.both HS.out hpm (by rw [← HXP.out]; exact HOW.out.2) (by rw [← HXP.out]; exact hlq) enZ (fun j hj => next_if n1)
              · rw [← HE1.out]
                exact (Below.heap_setCell _ _ _ _ HBG.out).trans ((Below.heap_setCell _ _ _ _ HBG.out).trans HJ5.out.2)
            · have h0b : (en.ino == 0) = false := by simpa using h0
              have HLD : Hid (leadS m (atN L) en = some t) := Hid.mk (by unfold leadS; rw [if_neg h0]; exact hf)
              by_cases ht : t ∈ rowS m (atN L) x.E R q
              · skip
                have hnf := numF_old hf ht
                have HLN := Hid.mk (HJ5.out.1.num.look keyed3 Try.underlying74 (zero_int X5) (Maps.keyOf_int_mk Try.underlying3 hew))
                rw [hnf] at HLN
                simp only [Option.getD] at HLN
                have hnz : ((((rowS m (atN L) x.E R q).idxOf t : Nat) : Int) + 1 == 0) = false := by rw [beq_eq_false_iff_ne]; omega
                generalize hix : (((rowS m (atN L) x.E R q).idxOf t : Nat) : Int) + 1 = ix at *
                clear hnf
                go_wp2_with (first | (rw [HLK.out]; simp only [Result.andThen_ok]) | (rw [HLN.out]; simp only [Result.andThen_ok]))
                obtain ⟨n1, n2⟩ := numE_old (R := R) (show leadS m (atN L) (x.E q) = some t by rw [← HEN.out]; exact HLD.out) ht
                rw [hix] at n1
                refine ⟨⟨q + 1, qa, qc, by rw [n2], hlq, by push_cast; rfl, Hid.mk ⟨?_, ?_⟩⟩, by simp [Go.RowKit.intOf]; omega⟩
                · rw [n2]
                  exact HJ5.out.1.ino HS.out hpm (by rw [← HXP.out]; exact HOW.out.2) (by rw [← HXP.out]; exact hlq) ix (fun j hj => by rw [if_neg (Nat.lt_irrefl q)]; exact next_if n1)
                · rw [← HE1.out]
                  exact (Below.heap_setCell _ _ _ _ HBG.out).trans HJ5.out.2
              · skip
                have hRO : RowOk m R := by rw [HRP.out.1]; exact rowN_ok HRL.out a
                obtain ⟨n1, n2⟩ := numE_new (R := R) (show leadS m (atN L) (x.E q) = some t by rw [← HEN.out]; exact HLD.out) ht
                have hR2 := (rowS_ok (Nd := atN L) (E := x.E) hRO (q + 1)).1.length
                rw [n2, List.length_append, List.length_singleton] at hR2
                have hnf := numF_new hf ht
                have HLN := Hid.mk (HJ5.out.1.num.look keyed3 Try.underlying74 (zero_int X5) (Maps.keyOf_int_mk Try.underlying3 hew))
                rw [hnf] at HLN
                simp only [Option.getD] at HLN
                obtain ⟨o, hpr, hpn⟩ := HJ5.out.1.num.put keyed3 Try.underlying74 (by unfold maxLen; omega) (val := .int .i64 (((rowS m (atN L) x.E R q).length : Int) + 1)) (Maps.keyOf_int_mk Try.underlying3 hew)
                rw [hnf, if_neg (by simp)] at hpn
                have HPR := Hid.mk hpr
                obtain ⟨X6, hX6⟩ : ∃ X6, X6 = setBlock X5 nb o := ⟨_, rfl⟩
                have hm6 : MAt X6 3 nb (rowS m (atN L) x.E R q ++ [t]).length (numF m (atN L) (rowS m (atN L) x.E R q ++ [t])) := by rw [hX6, List.length_append]; exact hpn.say (fun _ kl _ => numF_upd hf ht kl)
                have hJ6 := HJ5.out.1.nums (W' := X6) (fun g hg => by rw [hX6]; exact heap_set_other (by first | exact hg | exact fun e => hg e.symm)) (by rw [hX6]; exact below_set _ _ _) hm6
                have hbx6 : X6.heap[bx]? = X5.heap[bx]? := by rw [hX6]; exact heap_set_other (by have := map_ne HJ5.out.1.num HJ5.out.2; omega)
                have hbe6 : X6.heap[be]? = X5.heap[be]? := by rw [hX6]; exact heap_set_other (by have := map_ne HJ5.out.1.num HG5.out; omega)
                have hB6 : B ≤ X6.heap.size := by have := hJ6.num.lt; have := hJ6.hi; omega
                obtain ⟨rv', X7, har, hown7, hg7⟩ := appendZ_run X6 B (.slice qa (rowS m (atN L) x.E R q).length qc) (rowS m (atN L) x.E R q) t hJ6.row hB6 (by omega)
                have hJ6a := hJ6.blw ((Below.refl _ X6).alloc (Nat.le_refl _) (.cells #[.int .i64 ((t : Nat) : Int)] 3))
                have hbx7 := grown_at hg7 hJ6a.row ((Below.heap_alloc _ _ _ (lt_of_block (hbx6.trans HJ5.out.2))).trans (hbx6.trans HJ5.out.2)) (by decide)
                have hbe7 := grown_at hg7 hJ6a.row ((Below.heap_alloc _ _ _ (lt_of_block (hbe6.trans HG5.out))).trans (hbe6.trans HG5.out)) (by decide)
                have hJ7 := hJ6a.rows hown7 hg7
                obtain ⟨qa', qc', rfl, -, -⟩ := owns_val hown7
                have hsl := hJ7.slotsP hpm
                rw [← HXP.out] at hsl
                have b7 := blk_cell hbx7 5
                have d7 := blk_cell hbe7 0
                simp at b7 d7
                rw [HE1.out] at b7
                have t0 := owns_cellG hsl HOW.out.2 (q * 2) (by omega)
                rw [(Ey_get x.sn _ q hlq).1] at t0
                obtain ⟨t0, t0f⟩ := t0
                have HLM := Hid.mk (hJ7.num.look keyed3 Try.underlying74 (zero_int X7) (Maps.keyOf_int_mk Try.underlying3 hew))
                rw [numF_last hf ht] at HLM
                simp only [Option.getD] at HLM
                have HAR := Hid.mk har
                have HJ7 := Hid.mk (And.intro hJ7 hbx7)
                have hlw : IntKind.i64.wrap (1 + ((rowS m (atN L) x.E R q).length : Int)) = ((rowS m (atN L) x.E R q).length : Int) + 1 := by rw [IntKind.wrap_i64]; omega
                have HN12 := Hid.mk (And.intro n1 n2)
                clear hnf hpr hpn hm6 hJ6 hbx6 hbe6 hB6 har hown7 hg7 hJ6a hbx7 hbe7 hJ7 hsl n1 n2 hRO
                generalize hln : ((rowS m (atN L) x.E R q).length : Int) + 1 = ln at *
                go_upto_region 20 with (first | (rw [HLK.out]; simp only [Result.andThen_ok]) | (rw [HLN.out]; simp only [Result.andThen_ok]) | (rw [HPR.out]; simp only [Result.andThen_ok]))
                rw [← hX6]
                clear hX6 k0 k1 k0f k1f d0 b5
                go_wp2_with (first | (rw [HLM.out]; simp only [Result.andThen_ok]) | (at_builtin; refine wpList_append_known rfl _ _ _ rfl _ _ _ _ rfl rfl HAR.out ?_; simp only [Act.put, List.setIfInBounds_toArray, List.set_cons_zero, List.set_cons_succ]) | (rw [HLM.out]; simp only [Result.andThen_ok]))
                obtain ⟨n1, n2⟩ := HN12.out
                refine ⟨⟨q + 1, qa', qc', by rw [n2, List.length_append]; rfl, hlq, by push_cast; rfl, Hid.mk ⟨?_, ?_⟩⟩, by simp [Go.RowKit.intOf]; omega⟩
                · rw [n2]
                  have h9 := HJ7.out.1.ino (q := q) (G := fun j => if j < q + 1 then numE m (atN L) x.E R j else x.E j) HS.out hpm (by rw [← HXP.out]; exact HOW.out.2) (by rw [← HXP.out]; exact hlq) ln (fun j hj => by rw [if_neg (Nat.lt_irrefl q)]; exact next_if n1)
                  rw [List.length_append, List.length_singleton] at h9
                  exact h9
                · rw [← HE1.out]
                  exact (Below.heap_setCell _ _ _ _ HBG.out).trans HJ7.out.2
        · skip
          obtain rfl : q = x.sn := by omega
          have hRN : rowN m (atN L) r (a + 1) = rowS m (atN L) x.E R x.sn := by
            rw [rowN_next (by rw [← HRP.out.1]; exact hlt), show atN L (pN m (atN L) r a) = x from HX.out.symm, ← HRP.out.1]
          have hON : outN m (atN L) r a = { x with ino := (a : Int) + 1, E := numE m (atN L) x.E R } := by
            unfold outN
            rw [show atN L (pN m (atN L) r a) = x from HX.out.symm, ← HRP.out.1]
          have hJ8 := HK2.out.1
          have hsz : B ≤ wr.heap.size := by have := hJ8.num.lt; have := hJ8.hi; omega
          have hRO : RowOk m R := by rw [HRP.out.1]; exact rowN_ok HRL.out a
          have hRl := hRO.length
          have hol := hJ8.out
          rw [List.length_map, List.length_range] at hol
          obtain ⟨oa, oc, rfl, -, -⟩ := owns_val hol
          obtain ⟨ov', X9, har, hown9, hg9, hat9⟩ := appendN_run wr B (.slice oa a oc) a ((List.range a).map (outN m (atN L) r)) (outN m (atN L) r a) hol hsz (by omega)
          have HJ9 : Hid (NuO w0 B m (.slice (some ⟨g, 0, none⟩) m cc) L pb nb r (a + 1) (updX X (pN m (atN L) r a) (outN m (atN L) r a).E) (.slice qa (rowS m (atN L) x.E R x.sn).length qc) ov' X9) := Hid.mk (by
            refine HK.out.next (W := wr.alloc (.cells (noC (outN m (atN L) r a)).toArray 39)) HRL.out (by rw [← HRP.out.1]; exact hlt) ?_ hown9 hg9 ?_
            · rw [hRN, ← HRP.out.2, ← HRP.out.1, show atN L p = x from HXP.out.symm]
              exact hJ8.blw ((Below.refl _ wr).alloc (Nat.le_refl _) _)
            · rcases hat9 with h | h
              · exact .inl h
              · exact .inr (fun k hk => by rw [h] at hk; cases hk; simp))
          rw [hON] at har
          have HAR := Hid.mk har
          simp only [noC] at HAR
          have HRN := Hid.mk hRN
          have b0 := blk_cell HK2.out.2 0
          have b1 := blk_cell HK2.out.2 1
          have b2 := blk_cell HK2.out.2 2
          have b3 := blk_cell HK2.out.2 3
          have b4 := blk_cell HK2.out.2 4
          have b5 := blk_cell HK2.out.2 5
          simp at b0 b1 b2 b3 b4 b5
          clear hRN hON hJ8 hsz hol har hown9 hg9 hat9
          go_wp2_with (at_builtin; refine wpList_append_known rfl _ _ _ rfl _ _ _ _ rfl rfl HAR.out ?_; simp only [Act.put, List.setIfInBounds_toArray, List.set_cons_zero, List.set_cons_succ])
          go_roundw
          case rel => exact ⟨a + 1, qa, qc, _, by rw [HRN.out], by push_cast; rfl, HJ9⟩
          case measure => simp [Go.RowKit.intOf]; omega
    · skip
      have hae : a = (rowN m (atN L) r a).length := by have := HK.out.le; omega
      have HAE := Hid.mk hae
      clear hae
      go_wp2
      refine bodyPost_ret (results_tmp rfl _ _ _) rfl ?_
      exact ⟨_, a, X, pb, nb, _, rfl, HAE.out, HK.out⟩
end Go.Proofs.Ytbahbhaoimabdaa
