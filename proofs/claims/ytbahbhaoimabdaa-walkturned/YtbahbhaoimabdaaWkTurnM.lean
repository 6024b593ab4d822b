/-
  Nodes turned, with other numbers: what lies in memory.
-/
import Derived.Test.YtbahbhaoimabdaaWkTurnL
import Derived.Test.YtbahbhaoimabdaaLayRn
import Derived.Test.YtbahbhaoimabdaaWkAns
namespace Go.Proofs.Ytbahbhaoimabdaa
open Go Go.Proofs Go.RowKit Go.Shelf

/-- Between two nodes. -/
structure TuJ (w : World) (n b : Nat) (add : Int) (N : Nat → NoV) (k : Nat) (ov : Value) (O : List NoV) (W : World) : Prop where
  out : W.ownsRow w.heap.size 39 6 ov k (Ny O)
  len : O.length = k
  slots : ∀ i, i < k → W.ownsRow w.heap.size 41 2 (slV (O.getD i noZ)) (O.getD i noZ).sn (Ey (O.getD i noZ).sn (O.getD i noZ).E)
  val : ∀ i, i < k → ∃ so sc, O.getD i noZ = { tN add (N (turnP n b i)) with so := so, sc := sc }
  below : Below w.heap.size w W
/-- Between two slots of a node: its box, and its own slots. -/
structure TuI (w : World) (n b : Nat) (add : Int) (N : Nat → NoV) (k : Nat) (ov : Value) (O : List NoV) (y : NoV) (F : Nat → EnV) (bx : Nat) (W : World) : Prop where
  j : TuJ w n b add N k ov O W
  own : W.ownsRow w.heap.size 41 2 (slV y) y.sn (Ey y.sn F)
  ap : ∀ g, (slV y).ownBlock = some g → ∀ i, i < k → (slV (O.getD i noZ)).ownBlock ≠ some g
  box : W.heap[bx]? = some (.cells #[.int .i64 y.ino, .int .i64 y.kind, .int .i64 y.links, .int .i64 y.size, .slice y.bo y.bn y.bc, .slice y.so y.sn y.sc] 39 (0, 0))
section
variable {w : World} {n b : Nat} {add : Int} {N : Nat → NoV} {k : Nat} {ov : Value} {O : List NoV} {y : NoV} {F : Nat → EnV} {bx : Nat} {W W' : World}
theorem TuJ.zero (w : World) (n b : Nat) (add : Int) (N : Nat → NoV) (W : World) (h : Below w.heap.size w W) : TuJ w n b add N 0 (.slice none 0 0) [] W := ⟨World.ownsRow_nil _ _ _ _, rfl, fun i hi => absurd hi (Nat.not_lt_zero i), fun i hi => absurd hi (Nat.not_lt_zero i), h⟩
theorem TuJ.blw (h : TuJ w n b add N k ov O W) (hB : Below W.heap.size W W') : TuJ w n b add N k ov O W' :=
  ⟨owns_at h.out (fun g e => hB.block g (owns_kind h.out g e).2.1), h.len, fun i hi => owns_at (h.slots i hi) (fun g e => hB.block g (owns_kind (h.slots i hi) g e).2.1), h.val, h.below.trans (hB.mono h.below.size)⟩
theorem TuI.blw (h : TuI w n b add N k ov O y F bx W) (hB : Below W.heap.size W W') : TuI w n b add N k ov O y F bx W' :=
  ⟨h.j.blw hB, owns_at h.own (fun g e => hB.block g (owns_kind h.own g e).2.1), h.ap, (hB.block bx (lt_of_block h.box)).trans h.box⟩
theorem TuI.say (h : TuI w n b add N k ov O y F bx W) {G : Nat → EnV} (he : ∀ j, j < y.sn → F j = G j) : TuI w n b add N k ov O y G bx W := by
  refine ⟨h.j, ?_, h.ap, h.box⟩
  have h1 := h.own
  rw [Ey_congr he] at h1
  exact h1
/-- A slot's number is written. -/
theorem TuI.ino (h : TuI w n b add N k ov O y F bx W) {q gs : Nat} (hg : (slV y).ownBlock = some gs) (hq : q < y.sn) (i : Int) : TuI w n b add N k ov O y (fun j => if j = q then ⟨i, (F q).nm⟩ else F j) bx (W.setCell ⟨gs, q * 2, none⟩ (.int .i64 i)) := by
  obtain ⟨hlo, -, cs, hk⟩ := owns_kind h.own gs hg
  have h1 := owns_setG h.own hg (q * 2) (.int .i64 i)
  rw [Ey_set1 y.sn F q hq i] at h1
  have hW : ∀ g, g ≠ gs → (W.setCell ⟨gs, q * 2, none⟩ (.int .i64 i)).heap[g]? = W.heap[g]? := fun g hne => Below.heap_setCell _ _ _ _ hne
  refine ⟨⟨owns_at h.j.out (fun g e => ?_), h.j.len, fun i hi => owns_at (h.j.slots i hi) (fun g e => hW g (fun e2 => h.ap gs hg i hi (by rw [← e2]; exact e))), h.j.val, h.j.below.setCell hlo _⟩, h1, h.ap, (hW bx (fun e => ty_ne h.box hk (by decide) e)).trans h.box⟩
  obtain ⟨-, -, cs2, h2⟩ := owns_kind h.j.out g e
  exact hW g (ty_ne h2 hk (by decide))
/-- A node is begun: its box, its slots copied. -/
theorem TuJ.start {W2 W3 : World} {x : NoV} {so0 : Option Addr} {sc0 : Nat} {so : Option Addr} {sc : Nat} (h : TuJ w n b add N k ov O W) (hB : Below W.heap.size W W2) (hbx : W2.heap[bx]? = some (.cells #[.int .i64 (tf add x.ino), .int .i64 x.kind, .int .i64 x.links, .int .i64 x.size, .slice x.bo x.bn x.bc, .slice so0 x.sn sc0] 39 (0, 0))) (hlo : W.heap.size ≤ bx) (hv : W3.ownsRow W2.heap.size 41 2 (.slice so x.sn sc) x.sn (Ey x.sn x.E)) (hB3 : Below W2.heap.size W2 W3) : TuI w n b add N k ov O { tN add x with so := so, sc := sc } x.E bx (W3.setCell ⟨bx, 5, none⟩ (.slice so x.sn sc)) := by
  have hbl := lt_of_block hbx
  have h3 : W3.heap[bx]? = _ := (hB3.block bx hbl).trans hbx
  have hs := h.below.size
  have hs2 := hB.size
  have hB4 : Below W.heap.size W (W3.setCell ⟨bx, 5, none⟩ (.slice so x.sn sc)) := (hB.trans (hB3.mono hB.size)).setCell hlo _
  refine ⟨h.blw hB4, owns_base (owns_at hv (fun g e => Below.heap_setCell _ _ _ _ ?_)) (by omega), fun g e1 i hi e2 => ?_, blk_set h3⟩
  · have h4 := (owns_kind hv g e).1
    show g ≠ bx
    omega
  · have h4 := (owns_kind hv g e1).1
    have h5 := (owns_kind (h.slots i hi) g e2).2.1
    omega
/-- A node is told. -/
theorem TuI.push (h : TuI w n b add N k ov O y (tN add (N (turnP n b k))).E bx W) {ov' : Value} {so : Option Addr} {sc : Nat} (hy : y = { tN add (N (turnP n b k)) with so := so, sc := sc }) (hn : W'.ownsRow w.heap.size 39 6 ov' (k + 1) (Ny (O ++ [y]))) (hg : W.grownBy W' ov.ownBlock) : TuJ w n b add N (k + 1) ov' (O ++ [y]) W' := by
  have hb : ∀ {g : Nat} {cs} {t : TypeId}, W.heap[g]? = some (.cells cs t (0, 0)) → t ≠ 39 → W'.heap[g]? = W.heap[g]? := fun {g cs t} h1 ht => hg.block g (lt_of_block h1) (fun e => by
    obtain ⟨-, -, cs2, h2⟩ := owns_kind h.j.out g e.symm
    exact ty_ne h2 h1 (fun e => ht e.symm) rfl)
  have ho : ∀ {m : Nat} {v : Value} {xs : List Value}, W.ownsRow w.heap.size 41 2 v m xs → W'.ownsRow w.heap.size 41 2 v m xs := fun ho => owns_at ho (fun g e => by
    obtain ⟨-, -, cs, h2⟩ := owns_kind ho g e
    exact hb h2 (by decide))
  have hl := h.j.len
  have e1 : ∀ i, i < k → (O ++ [y]).getD i noZ = O.getD i noZ := fun i hi => by simp [List.getD, List.getElem?_append_left (show i < O.length by omega)]
  have e2 : (O ++ [y]).getD k noZ = y := by simp [List.getD, hl]
  have hyE : y.E = (tN add (N (turnP n b k))).E := by rw [hy]
  refine ⟨hn, by rw [List.length_append, List.length_singleton, hl], fun i hi => ?_, fun i hi => ?_, h.j.below.grown hg h.j.below.size (fun g e => (owns_kind h.j.out g e).1)⟩
  · by_cases e : i < k
    · rw [e1 i e]; exact ho (h.j.slots i e)
    · obtain rfl : i = k := by omega
      rw [e2, hyE]
      exact ho h.own
  · by_cases e : i < k
    · rw [e1 i e]; exact h.j.val i e
    · obtain rfl : i = k := by omega
      rw [e2]
      exact ⟨so, sc, hy⟩
/-- The row that is made. -/
theorem TuJ.made {ao : Option Addr} {na : Option Addr} {nc : Nat} (h : TuJ w n b add N n (.slice na n nc) O W) (hN : NoAt w ao n N) (hO : TurnOk n N) (hb : n = 0 ∨ b < n) (ha : add ≤ 1000000) (ha0 : 1 ≤ add) (hs : Sml n N) : NoAt W na n (fun i => O.getD i noZ) ∧ Sml n (fun i => O.getD i noZ) ∧ ∀ i, i < n → SameV (O.getD i noZ) (tN add (N (turnP n b i))) := by
  have hp : ∀ i, i < n → turnP n b i < n := fun i hi => turnP_lt (by omega) hi
  have hv : ∀ i, i < n → SameV (O.getD i noZ) (tN add (N (turnP n b i))) := fun i hi => by
    obtain ⟨so, sc, e⟩ := h.val i hi
    rw [e]
    exact ⟨rfl, rfl, rfl, rfl, rfl, rfl, fun _ _ => rfl, fun _ _ => ⟨rfl, rfl, rfl⟩⟩
  refine ⟨ownsN_NoAt h.out (fun i hi => ?_), ⟨hs.le, fun i hi => ?_, fun i hi => ?_, fun i hi j hj => ?_⟩, hv⟩
  · obtain ⟨-, -, -, -, -, hpa, -, hwf⟩ := no_at (hN.blw h.below) (hp i hi)
    have hsl := h.slots i hi
    obtain ⟨so, sc, e⟩ := h.val i hi
    refine ⟨by rw [e]; exact hpa, EnAt_of hsl, ?_⟩
    rw [e]
    obtain ⟨w1, w2, -, -⟩ := hwf
    have hi1 := hO.ino _ (hp i hi)
    have wfs : ∀ x : Int, 0 ≤ x → x ≤ 2000000 → (Lit.int .i64 x).wf = true := fun x h0 h1 => by
      have e1 : IntKind.i64.min = -9223372036854775808 := by decide
      have e2 : IntKind.i64.max = 9223372036854775807 := by decide
      simp [Lit.wf, e1, e2]
      omega
    refine ⟨w1, w2, ?_, fun q hq => ?_⟩
    · show (Lit.int .i64 (tf add (N (turnP n b i)).ino)).wf = true
      refine wfs _ ?_ ?_ <;> (unfold tf; split <;> omega)
    · have h2 := hO.slot _ (hp i hi) q hq
      show (Lit.int .i64 (tf add ((N (turnP n b i)).E q).ino)).wf = true
      refine wfs _ ?_ ?_ <;> (unfold tf; split <;> omega)
  · show (O.getD i noZ).sn ≤ 500
    rw [(hv i hi).sn]; exact hs.sn _ (hp i hi)
  · show (O.getD i noZ).bn ≤ 500
    rw [(hv i hi).bn]; exact hs.bn _ (hp i hi)
  · rw [((hv i hi).P j hj).2.1]
    exact hs.dat _ (hp i hi) j (by have h1 := (hv i hi).bn; have h2 : j < (O.getD i noZ).bn := hj; rw [h1] at h2; exact h2)
end
end Go.Proofs.Ytbahbhaoimabdaa
