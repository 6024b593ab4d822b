/-
  Two Allocs, the reference's own, and the row of calls, side by side.
-/
import Derived.Test.YtjhfkcngaknbdaaAlBits
namespace Go.Proofs.Ytjhfkcngaknbdaa
open Go Go.Proofs Go.RowKit Go.Shelf

/-- Cells that are no bytes. -/
def No8 (W : World) (j : Nat) : Prop := ∃ cs T fr, W.heap[j]? = some (.cells cs T fr) ∧ ∀ v ∈ cs.toList, ∀ x, v ≠ .int .u8 x
theorem OwB.no8 {W : World} {s n : Nat} {f : Nat → Bool} (h : OwB W s n f) : No8 W s := ⟨_, _, _, h, bo_not⟩
theorem AlAt.no8 {W : World} {b g i d : Nat} {ti td : Nat → Bool} (h : AlAt W b g i d ti td) : No8 W b := by
  obtain ⟨cs, T, e, hs⟩ := h.sz
  refine ⟨cs, T, _, e, fun v hv x => ?_⟩
  obtain ⟨k, hk, rfl⟩ := List.getElem_of_mem hv
  have hk23 : k < 23 := by simpa [hs] using hk
  have hc : W.cell? ⟨b, k, none⟩ = some (cs.toList[k]) := by
    rw [blk_cell e, ← Array.getElem?_toList, List.getElem?_eq_getElem hk]
  have hi := h.ino
  have hd := h.dat
  have key : ∃ u, W.cell? ⟨b, k, none⟩ = some u ∧ ∀ x, u ≠ .int .u8 x := by
    rcases Nat.lt_or_ge k 3 with h1 | h1
    · have : k = 0 ∨ k = 1 ∨ k = 2 := by omega
      rcases this with rfl | rfl | rfl
      · exact ⟨_, h.c0, fun x => by simp⟩
      · exact ⟨_, h.c1, fun x => by simp⟩
      · exact ⟨_, h.c2, fun x => by simp⟩
    rcases Nat.lt_or_ge k 13 with h2 | h2
    · rcases Nat.lt_or_ge k 5 with h3 | h3
      · have : k = 3 ∨ k = 4 := by omega
        rcases this with rfl | rfl
        · exact ⟨_, hi.c0, fun x => by simp⟩
        · exact ⟨_, hi.c1, fun x => by simp⟩
      · obtain ⟨q, rfl⟩ : ∃ q, k = 3 + 2 + q := ⟨k - 5, by omega⟩
        obtain ⟨ao, l, c, hq⟩ := hi.all q (by omega)
        exact ⟨_, hq, fun x => by simp⟩
    · rcases Nat.lt_or_ge k 15 with h3 | h3
      · have : k = 13 ∨ k = 14 := by omega
        rcases this with rfl | rfl
        · exact ⟨_, hd.c0, fun x => by simp⟩
        · exact ⟨_, hd.c1, fun x => by simp⟩
      · obtain ⟨q, rfl⟩ : ∃ q, k = 13 + 2 + q := ⟨k - 15, by omega⟩
        obtain ⟨ao, l, c, hq⟩ := hd.all q (by omega)
        exact ⟨_, hq, fun x => by simp⟩
  obtain ⟨u, hu, hn⟩ := key
  rw [hc] at hu
  cases hu
  exact hn x
theorem PlAt.only {S0 : Nat → Prop} {W W' : World} {b off G S L : Nat} {t : Nat → Bool} (h : PlAt W b off G S L t) (ho : Only S0 W W') (hb0 : ¬ S0 b) (hj : ∀ j, S0 j → No8 W j) (hL : 0 < G → 0 < L) : PlAt W' b off G S L t := by
  obtain ⟨c0, T, e, hs⟩ := h.blk
  have hb : W'.heap[b]? = W.heap[b]? := ho.block b h.lt hb0
  refine ⟨h.g8, ⟨c0, T, hb.trans e, hs⟩, (World.cell?_of_block (w := W) hb).trans h.c0, (World.cell?_of_block (w := W) hb).trans h.c1, fun k hk => ?_, fun k hk => by (obtain ⟨ao, l, c, h1⟩ := h.all k hk; exact ⟨ao, l, c, (World.cell?_of_block (w := W) hb).trans h1⟩)⟩
  obtain ⟨ao, l, c, xs, h1, h2⟩ := h.rows k hk
  refine ⟨ao, l, c, xs, (World.cell?_of_block (w := W) hb).trans h1, ⟨h2.bat.only ho (fun a ea _ hS => ?_), h2.len, h2.row, h2.none, fun a ea => ⟨(h2.apart a ea).1, Nat.lt_of_lt_of_le (h2.apart a ea).2 ho.size⟩⟩⟩
  obtain ⟨cs, T0, fr, hc, hv⟩ := hj _ hS
  exact h2.not_row hc hv (hL (by omega)) a ea rfl
theorem AlAt.only {S0 : Nat → Prop} {W W' : World} {b g i d : Nat} {ti td : Nat → Bool} (h : AlAt W b g i d ti td) (ho : Only S0 W W') (hb0 : ¬ S0 b) (hj : ∀ j, S0 j → No8 W j) : AlAt W' b g i d ti td := by
  have hb : W'.heap[b]? = W.heap[b]? := ho.block b h.lt hb0
  obtain ⟨f1, f2, _⟩ := h.fits
  refine ⟨(World.cell?_of_block (w := W) hb).trans h.c0, (World.cell?_of_block (w := W) hb).trans h.c1, (World.cell?_of_block (w := W) hb).trans h.c2, h.ino.only ho hb0 hj (fun _ => by omega), h.dat.only ho hb0 hj (fun hg => ?_), h.ok, by (obtain ⟨cs, T, e, hs⟩ := h.sz; exact ⟨cs, T, hb.trans e, hs⟩)⟩
  have h1 := f2.p hg
  have h2 := f2.l
  omega
/-- A call that came in: Way, Group, Ino, Block. -/
structure ActV where
  way : Int
  grp : Int
  ino : Int
  blk : Int
instance : Inhabited ActV := ⟨⟨0, 0, 0, 0⟩⟩
/-- A row of calls that came in. -/
def ActsAt (W : World) (ao : Option Addr) (n : Nat) (A : Nat → ActV) : Prop :=
  0 < n → ∃ ab off, ao = some ⟨ab, off, none⟩ ∧ ab < W.heap.size ∧ ∀ j, j < n → W.cell? ⟨ab, off + j * 4, none⟩ = some (.int .i64 (A j).way) ∧ W.cell? ⟨ab, off + j * 4 + 1, none⟩ = some (.int .i64 (A j).grp) ∧ W.cell? ⟨ab, off + j * 4 + 2, none⟩ = some (.int .i64 (A j).ino) ∧ W.cell? ⟨ab, off + j * 4 + 3, none⟩ = some (.int .i64 (A j).blk) ∧ I64 (A j).ino
/-- All that lies side by side: the program's (ti, td), another one (oi, od), the reference's (ri, rd). -/
structure Py (w W : World) (b b2 r s u : Nat) (G I D : Int) (g i d N M : Nat) (ti td oi od ri rd : Nat → Bool) : Prop where
  a : AlAt W b g i d ti td
  o : AlAt W b2 g i d oi od
  rf : RfAt W r s u G I D N M ri rd
  lo : w.heap.size ≤ b ∧ w.heap.size ≤ b2 ∧ w.heap.size ≤ r ∧ w.heap.size ≤ s ∧ w.heap.size ≤ u
  ne : b ≠ b2 ∧ r ≠ b ∧ s ≠ b ∧ u ≠ b ∧ r ≠ b2 ∧ s ≠ b2 ∧ u ≠ b2
  below : Below w.heap.size w W
section
variable {w W W' : World} {b b2 r s u : Nat} {G I D : Int} {g i d N M : Nat} {ti td oi od ri rd : Nat → Bool}
theorem Py.new (h : Py w W b b2 r s u G I D g i d N M ti td oi od ri rd) (hB : Below W.heap.size W W') : Py w W' b b2 r s u G I D g i d N M ti td oi od ri rd :=
  ⟨h.a.below hB, h.o.below hB, h.rf.below hB, h.lo, h.ne, h.below.trans (hB.mono h.below.size)⟩
theorem Py.turnA (h : Py w W b b2 r s u G I D g i d N M ti td oi od ri rd) {ti' td' : Nat → Bool} (hA : AlAt W' b g i d ti' td') (ho : Only (fun k => k = b) W W') : Py w W' b b2 r s u G I D g i d N M ti' td' oi od ri rd := by
  obtain ⟨n1, n2, n3, n4, n5, n6, n7⟩ := h.ne
  obtain ⟨l1, l2, l3⟩ := h.rf.lt
  refine ⟨hA, h.o.only ho (fun e => n1 e.symm) (fun j e => by subst e; exact h.a.no8), h.rf.keep (ho.block _ l1 n2) (ho.block _ l2 n3) (ho.block _ l3 n4), h.lo, h.ne, h.below.trans (ho.below h.below.size (fun k e => by have := h.lo; omega))⟩
theorem Py.turnO (h : Py w W b b2 r s u G I D g i d N M ti td oi od ri rd) {oi' od' : Nat → Bool} (hA : AlAt W' b2 g i d oi' od') (ho : Only (fun k => k = b2) W W') : Py w W' b b2 r s u G I D g i d N M ti td oi' od' ri rd := by
  obtain ⟨n1, n2, n3, n4, n5, n6, n7⟩ := h.ne
  obtain ⟨l1, l2, l3⟩ := h.rf.lt
  refine ⟨h.a.only ho (fun e => n1 e) (fun j e => by subst e; exact h.o.no8), hA, h.rf.keep (ho.block _ l1 n5) (ho.block _ l2 n6) (ho.block _ l3 n7), h.lo, h.ne, h.below.trans (ho.below h.below.size (fun k e => by have := h.lo; omega))⟩
theorem Py.turnR (h : Py w W b b2 r s u G I D g i d N M ti td oi od ri rd) {ri' rd' : Nat → Bool} (hR : RfAt W' r s u G I D N M ri' rd') (ho : Only (fun k => k = s ∨ k = u) W W') : Py w W' b b2 r s u G I D g i d N M ti td oi od ri' rd' := by
  obtain ⟨n1, n2, n3, n4, n5, n6, n7⟩ := h.ne
  have h8 : ∀ j, (j = s ∨ j = u) → No8 W j := fun j e => by
    rcases e with rfl | rfl
    · exact h.rf.si.no8
    · exact h.rf.sd.no8
  refine ⟨h.a.only ho (by omega) h8, h.o.only ho (by omega) h8, hR, h.lo, h.ne, h.below.trans (ho.below h.below.size (fun k e => by have := h.lo; omega))⟩
end
/-- The blocks that calls may turn. -/
def PyB (b b2 s u k : Nat) : Prop := k = b ∨ k = b2 ∨ k = s ∨ k = u
/-- The box of one call. -/
def XAt (W : World) (x : Nat) (V : ActV) : Prop := W.heap[x]? = some (.cells #[.int .i64 V.way, .int .i64 V.grp, .int .i64 V.ino, .int .i64 V.blk] 32 (0, 0))
structure XC (W : World) (x : Nat) (V : ActV) : Prop where
  c0 : W.cell? ⟨x, 0, none⟩ = some (.int .i64 V.way)
  c1 : W.cell? ⟨x, 1, none⟩ = some (.int .i64 V.grp)
  c2 : W.cell? ⟨x, 2, none⟩ = some (.int .i64 V.ino)
  c3 : W.cell? ⟨x, 3, none⟩ = some (.int .i64 V.blk)
theorem XAt.xc {W : World} {x : Nat} {V : ActV} (h : XAt W x V) : XC W x V := ⟨(blk_cell h 0).trans rfl, (blk_cell h 1).trans rfl, (blk_cell h 2).trans rfl, (blk_cell h 3).trans rfl⟩
def inX (r : Option Nat) : Int := match r with
  | some n => ((n + 1 : Nat) : Int)
  | none => 0
def inB (r : Option Nat) : Bool := r.isSome
theorem inR_is (r : Option Nat) : inR r = .tuple #[.int .i64 (inX r), .bool (inB r)] := by cases r <;> rfl
def blX (g i d : Nat) (r : Option Nat) : Int := match r with
  | some n => daI g i d n
  | none => 0
def blB (g i d : Nat) (r : Option Nat) : Bool := match r with
  | some n => daB g i d n
  | none => false
theorem blR_is (g i d : Nat) (r : Option Nat) : blR g i d r = .tuple #[.int .i64 (blX g i d r), .bool (blB g i d r)] := by cases r <;> rfl
end Go.Proofs.Ytjhfkcngaknbdaa
