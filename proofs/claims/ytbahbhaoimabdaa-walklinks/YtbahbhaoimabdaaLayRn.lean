/-
  The reference's Renumber: its row of numbers.
-/
import Derived.Test.YtbahbhaoimabdaaWkRCopy
import Derived.Test.YtbahbhaoimabdaaWkRPaths2
namespace Go.Proofs.Ytbahbhaoimabdaa
open Go Go.Proofs Go.RowKit Go.Shelf

/-- The numbers of the places: 0 where none is given yet. -/
def nuL (m : Nat) (R : List Nat) : List Nat := (List.range m).map (fun t => if t ∈ R then R.idxOf t + 1 else 0)
theorem nuL_length (m : Nat) (R : List Nat) : (nuL m R).length = m := by simp [nuL]
theorem nuL_get (m : Nat) (R : List Nat) (t : Nat) (ht : t < m) : (nuL m R).getD t 0 = if t ∈ R then R.idxOf t + 1 else 0 := by
  unfold nuL
  rw [List.getD, List.getElem?_map, List.getElem?_range ht]
  rfl
theorem nuL_cell (m : Nat) (R : List Nat) (t : Nat) (ht : t < m) : (Iz (nuL m R))[t]? = some (.int .i64 ((if t ∈ R then R.idxOf t + 1 else 0 : Nat) : Int)) := by
  rw [Iz_get _ _ (by rw [nuL_length]; exact ht), nuL_get m R t ht]
/-- A place gets its number. -/
theorem nuL_next (m : Nat) (R : List Nat) (t : Nat) (hn : t ∉ R) : (Iz (nuL m R)).set t (.int .i64 ((R.length : Int) + 1)) = Iz (nuL m (R ++ [t])) := by
  unfold Iz nuL
  rw [List.map_map, List.map_map]
  refine List.ext_getElem? (fun i => ?_)
  rw [List.getElem?_set, List.getElem?_map, List.getElem?_map, List.length_map, List.length_range]
  by_cases hi : i < m
  · rw [List.getElem?_range hi]
    simp only [Option.map_some, Function.comp]
    by_cases e : t = i
    · subst e
      rw [if_pos rfl, if_pos hi, if_pos (by simp), List.idxOf_append, if_neg hn]
      simp
    · rw [if_neg e]
      by_cases h : i ∈ R
      · rw [if_pos h, if_pos (by simp [h]), List.idxOf_append, if_pos h]
      · rw [if_neg h, if_neg (by simp [h]; exact fun e2 => e e2.symm)]
  · have h1 : (List.range m)[i]? = none := by rw [List.getElem?_eq_none_iff]; simp; omega
    rw [h1]
    split
    · rename_i h; rw [if_neg (by omega)]; rfl
    · rfl
theorem nuL_nil (m : Nat) : Iz (nuL m []) = List.replicate m (.int .i64 0) := by
  unfold Iz nuL
  refine List.ext_getElem? (fun i => ?_)
  rw [List.map_map, List.getElem?_map, List.getElem?_replicate]
  by_cases hi : i < m
  · rw [List.getElem?_range hi, if_pos hi]
    rfl
  · rw [if_neg hi]
    have h1 : (List.range m)[i]? = none := by rw [List.getElem?_eq_none_iff]; simp; omega
    rw [h1]
    rfl
theorem OwN.keptI {W W' : World} {base q : Nat} {x : NoV} (h : OwN W base q x) (hk : ∀ (g : Nat) (cs : Array Value) (t : TypeId), W.heap[g]? = some (.cells cs t (0, 0)) → (t ≠ 39 ∧ t ≠ 3) → W'.heap[g]? = W.heap[g]?) : OwN W' base q x := by
  refine ⟨owns_at h.slots (fun g e => ?_), owns_at h.parts (fun g e => ?_), fun k hk' => owns_at (h.data k hk') (fun g e => ?_)⟩
  · obtain ⟨-, -, cs, h2⟩ := owns_kind h.slots g e
    exact hk g cs _ h2 (by decide)
  · obtain ⟨-, -, cs, h2⟩ := owns_kind h.parts g e
    exact hk g cs _ h2 (by decide)
  · obtain ⟨-, -, cs, h2⟩ := owns_kind (h.data k hk') g e
    exact hk g cs _ h2 (by decide)
theorem appendZ_run2 (W : World) (B : Nat) (v : Value) (L : List Nat) (p : Nat) (hown : W.ownsRow B 3 1 v L.length (Iz L)) (hB : B ≤ W.heap.size) (hn : L.length ≤ 16777216) :
    ∃ v' W', (Builtin.append_ #[65, 65] 65 #[v, .slice (some ⟨W.heap.size, 0, none⟩) 1 1]).run Try.prog (W.alloc (.cells #[.int .i64 (p : Int)] 3)) = .ok v' W' ∧ W'.ownsRow B 3 1 v' (L ++ [p]).length (Iz (L ++ [p])) ∧ (W.alloc (.cells #[.int .i64 (p : Int)] 3)).grownBy W' v.ownBlock ∧ (v'.ownBlock = v.ownBlock ∨ v'.ownBlock = some (W.heap.size + 1)) := by
  obtain ⟨i0, hi, hz0, hz1, hz2⟩ := info_parts infoI
  have hnew := blk_new W (.cells #[.int .i64 (p : Int)] 3)
  obtain ⟨v3, W3, hr, hown3, hg3, _, hat⟩ := run_append_own_at (P := Try.prog) (W.alloc (.cells #[.int .i64 (p : Int)] 3)) B 65 65 3 i0 (.int .i64 0) 1 8 Try.underlying65 hi hz0 hz1 hz2 rfl (by decide) v L.length (Iz L) (hown.alloc _) ⟨W.heap.size, 0, none⟩ 1 1 [.int .i64 (p : Int)] rfl (fun j u hj => by
    match j, hj with
    | 0, hj => cases hj; rw [add_at, blk_cell hnew]; rfl) (fun u hu => by simp at hu; subst hu; rfl) (by unfold maxLen; omega) (by omega) (by simp; omega)
  have e : Iz L ++ [.int .i64 (p : Int)] = Iz (L ++ [p]) := by simp [Iz]
  rw [e] at hown3
  rw [World.size_alloc] at hat
  exact ⟨v3, W3, hr, by rw [List.length_append]; exact hown3, hg3, hat⟩
/-- All that lies in memory between two steps. -/
structure RnJ (w : World) (m : Nat) (N R : List Nat) (nv rv : Value) (O : List NoV) (ov : Value) (W : World) : Prop where
  nums : W.ownsRow w.heap.size 3 1 nv m (Iz (nuL m N))
  row : W.ownsRow w.heap.size 3 1 rv R.length (Iz R)
  out : W.ownsRow w.heap.size 39 6 ov O.length (Ny O)
  own : ∀ k, k < O.length → OwN W w.heap.size (O.getD k noZ).bn (O.getD k noZ)
  ne : ∀ g, nv.ownBlock = some g → rv.ownBlock ≠ some g
  below : Below w.heap.size w W
section
variable {w : World} {m : Nat} {N R : List Nat} {nv rv : Value} {O : List NoV} {ov : Value} {W W' : World}
theorem RnJ.blw (h : RnJ w m N R nv rv O ov W) (hB : Below W.heap.size W W') : RnJ w m N R nv rv O ov W' := by
  have hk : ∀ {e : TypeId} {size n : Nat} {v : Value} {xs : List Value}, W.ownsRow w.heap.size e size v n xs → W'.ownsRow w.heap.size e size v n xs := fun ho => owns_at ho (fun g e => hB.block g (owns_kind ho g e).2.1)
  exact ⟨hk h.nums, hk h.row, hk h.out, fun k hk' => (h.own k hk').blw hB, h.ne, h.below.trans (hB.mono h.below.size)⟩
/-- A number is set. -/
theorem RnJ.set (h : RnJ w m N R nv rv O ov W) {g t : Nat} (hg : nv.ownBlock = some g) (hn : t ∉ N) : RnJ w m (N ++ [t]) R nv rv O ov (W.setCell ⟨g, t, none⟩ (.int .i64 ((N.length : Int) + 1))) := by
  obtain ⟨hb, -, cs, hk⟩ := owns_kind h.nums g hg
  have h1 := owns_setG h.nums hg t (.int .i64 ((N.length : Int) + 1))
  rw [nuL_next m N t hn] at h1
  refine ⟨h1, owns_at h.row (fun b e => Below.heap_setCell _ _ _ _ (fun e2 => h.ne g hg (by have e3 : b = g := e2; rw [← e3]; exact e))), owns_at h.out (fun b e => ?_), fun k hk' => (h.own k hk').keptI (fun b cs2 t2 h2 ht => ?_), h.ne, h.below.setCell hb _⟩
  · obtain ⟨-, -, cs2, h2⟩ := owns_kind h.out b e
    exact Below.heap_setCell _ _ _ _ (ty_ne h2 hk (by decide))
  · exact Below.heap_setCell _ _ _ _ (ty_ne h2 hk ht.2)
/-- The order grows. -/
theorem RnJ.rows (h : RnJ w m N R nv rv O ov W) {S : List Nat} {rv' : Value} (hn : W'.ownsRow w.heap.size 3 1 rv' S.length (Iz S)) (hg : W.grownBy W' rv.ownBlock) (hv : rv'.ownBlock = rv.ownBlock ∨ ∀ k, rv'.ownBlock = some k → W.heap.size ≤ k) : RnJ w m N S nv rv' O ov W' := by
  have hb : ∀ {g : Nat} {cs} {t : TypeId}, W.heap[g]? = some (.cells cs t (0, 0)) → t ≠ 3 → W'.heap[g]? = W.heap[g]? := fun {g cs t} h1 ht => hg.block g (lt_of_block h1) (fun e => by
    obtain ⟨-, -, cs2, h2⟩ := owns_kind h.row g e.symm
    exact ty_ne h2 h1 (fun e => ht e.symm) rfl)
  refine ⟨owns_at h.nums (fun g e => hg.block g (owns_kind h.nums g e).2.1 (fun e2 => h.ne g e e2.symm)), hn, owns_at h.out (fun g e => ?_), fun k hk => (h.own k hk).keptI (fun b cs t h2 ht => hb h2 ht.2), fun g e1 e2 => ?_, h.below.grown hg h.below.size (fun k e => (owns_kind h.row k e).1)⟩
  · obtain ⟨-, -, cs2, h2⟩ := owns_kind h.out g e
    exact hb h2 (by decide)
  · rcases hv with hv | hv
    · exact h.ne g e1 (hv ▸ e2)
    · have := (owns_kind h.nums g e1).2.1
      have := hv g e2
      omega
/-- A node is told. -/
theorem RnJ.outs (h : RnJ w m N R nv rv O ov W) {p : NoV} {ov' : Value} (hn : W'.ownsRow w.heap.size 39 6 ov' (O ++ [p]).length (Ny (O ++ [p]))) (hg : W.grownBy W' ov.ownBlock) (hp : OwN W w.heap.size p.bn p) : RnJ w m N R nv rv (O ++ [p]) ov' W' := by
  have hb : ∀ {g : Nat} {cs} {t : TypeId}, W.heap[g]? = some (.cells cs t (0, 0)) → t ≠ 39 → W'.heap[g]? = W.heap[g]? := fun {g cs t} h1 ht => hg.block g (lt_of_block h1) (fun e => by
    obtain ⟨-, -, cs2, h2⟩ := owns_kind h.out g e.symm
    exact ty_ne h2 h1 (fun e => ht e.symm) rfl)
  have hk : ∀ {n : Nat} {v : Value} {xs : List Value}, W.ownsRow w.heap.size 3 1 v n xs → W'.ownsRow w.heap.size 3 1 v n xs := fun ho => owns_at ho (fun g e => by
    obtain ⟨-, -, cs, h2⟩ := owns_kind ho g e
    exact hb h2 (by decide))
  refine ⟨hk h.nums, hk h.row, hn, fun k hk' => ?_, h.ne, h.below.grown hg h.below.size (fun k e => (owns_kind h.out k e).1)⟩
  have hkk : ∀ x : NoV, OwN W w.heap.size x.bn x → OwN W' w.heap.size x.bn x := fun x hx => hx.keptI (fun b cs t h2 ht => hb h2 ht.1)
  refine hkk _ ?_
  rw [List.length_append, List.length_singleton] at hk'
  by_cases e : k < O.length
  · have e1 : (O ++ [p]).getD k noZ = O.getD k noZ := by simp [List.getD, List.getElem?_append_left e]
    rw [e1]
    exact h.own k e
  · obtain rfl : k = O.length := by omega
    have e1 : (O ++ [p]).getD O.length noZ = p := by simp [List.getD]
    rw [e1]
    exact hp
end
end Go.Proofs.Ytbahbhaoimabdaa
namespace Go.Proofs.Ytbahbhaoimabdaa
open Go Go.Proofs Go.RowKit Go.Shelf

section
variable {w : World} {m : Nat} {N R : List Nat} {nv rv : Value} {O : List NoV} {ov : Value} {W W' : World}
/-- A slot of a node that isn't told yet is written. -/
theorem RnJ.entry (h : RnJ w m N R nv rv O ov W) {gs : Nat} {cs : Array Value} (hk : W.heap[gs]? = some (.cells cs 41 (0, 0))) (hlo : w.heap.size ≤ gs) (hap : ∀ k, k < O.length → (slV (O.getD k noZ)).ownBlock ≠ some gs) (hW : ∀ g, g ≠ gs → W'.heap[g]? = W.heap[g]?) (hb : Below gs W W') : RnJ w m N R nv rv O ov W' := by
  have hn : ∀ {b : Nat} {cs2} {t : TypeId}, W.heap[b]? = some (.cells cs2 t (0, 0)) → t ≠ 41 → W'.heap[b]? = W.heap[b]? := fun h1 ht => hW _ (fun e => ty_ne h1 hk ht e)
  have ho : ∀ {t : TypeId} {size n : Nat} {v : Value} {xs : List Value}, t ≠ 41 → W.ownsRow w.heap.size t size v n xs → W'.ownsRow w.heap.size t size v n xs := fun ht h1 => owns_at h1 (fun g e => by
    obtain ⟨-, -, cs2, h2⟩ := owns_kind h1 g e
    exact hn h2 ht)
  refine ⟨ho (by decide) h.nums, ho (by decide) h.row, ho (by decide) h.out, fun k hk' => ⟨?_, ho (by decide) (h.own k hk').parts, fun i hi => ho (by decide) ((h.own k hk').data i hi)⟩, h.ne, h.below.trans (hb.mono hlo)⟩
  exact owns_at (h.own k hk').slots (fun g e => hW g (fun e2 => hap k hk' (by rw [← e2]; exact e)))
end
/-- Between two slots: what lies in memory, the copy's own rows with slots F, and its box. -/
structure RnI (w : World) (m : Nat) (N R : List Nat) (nv rv : Value) (O : List NoV) (ov : Value) (y : NoV) (F : Nat → EnV) (bx a : Nat) (W : World) : Prop where
  j : RnJ w m N R nv rv O ov W
  own : OwN W w.heap.size y.bn (setE y F)
  box : W.heap[bx]? = some (.cells #[.int .i64 ((a : Int) + 1), .int .i64 y.kind, .int .i64 y.links, .int .i64 y.size, .slice y.bo y.bn y.bc, .slice y.so y.sn y.sc] 39 (0, 0))
section
variable {w : World} {m : Nat} {N R : List Nat} {nv rv : Value} {O : List NoV} {ov : Value} {y : NoV} {F : Nat → EnV} {bx a : Nat} {W W' : World}
theorem RnI.say (h : RnI w m N R nv rv O ov y F bx a W) {G : Nat → EnV} (he : ∀ j, j < y.sn → F j = G j) : RnI w m N R nv rv O ov y G bx a W := by
  refine ⟨h.j, ⟨?_, h.own.parts, h.own.data⟩, h.box⟩
  have h1 := h.own.slots
  have e : Ey (setE y F).sn (setE y F).E = Ey (setE y G).sn (setE y G).E := Ey_congr he
  rw [e] at h1
  exact h1
theorem RnI.blw (h : RnI w m N R nv rv O ov y F bx a W) (hB : Below W.heap.size W W') : RnI w m N R nv rv O ov y F bx a W' := ⟨h.j.blw hB, h.own.blw hB, (hB.block bx (lt_of_block h.box)).trans h.box⟩
theorem RnI.entry (h : RnI w m N R nv rv O ov y F bx a W) {G : Nat → EnV} {gs : Nat} (hg : (slV y).ownBlock = some gs) (hap : ∀ k, k < O.length → (slV (O.getD k noZ)).ownBlock ≠ some gs) (hW : ∀ g, g ≠ gs → W'.heap[g]? = W.heap[g]?) (hb : Below gs W W') (hn : W'.ownsRow w.heap.size 41 2 (slV y) y.sn (Ey y.sn G)) : RnI w m N R nv rv O ov y G bx a W' := by
  obtain ⟨hlo, -, cs, hk⟩ := owns_kind h.own.slots gs hg
  have ho : ∀ {t : TypeId} {size n : Nat} {v : Value} {xs : List Value}, t ≠ 41 → W.ownsRow w.heap.size t size v n xs → W'.ownsRow w.heap.size t size v n xs := fun ht h1 => owns_at h1 (fun g e => by
    obtain ⟨-, -, cs2, h2⟩ := owns_kind h1 g e
    exact hW g (fun e => ty_ne h2 hk ht e))
  exact ⟨h.j.entry hk hlo hap hW hb, ⟨hn, ho (by decide) h.own.parts, fun i hi => ho (by decide) (h.own.data i hi)⟩, (hW bx (fun e => ty_ne h.box hk (by decide) e)).trans h.box⟩
/-- A slot is written, both of its cells. -/
theorem RnI.both (h : RnI w m N R nv rv O ov y F bx a W) {q gs : Nat} (hg : (slV y).ownBlock = some gs) (hap : ∀ k, k < O.length → (slV (O.getD k noZ)).ownBlock ≠ some gs) (hq : q < y.sn) (e : EnV) : RnI w m N R nv rv O ov y (fun j => if j = q then e else F j) bx a ((W.setCell ⟨gs, q * 2, none⟩ (.int .i64 e.ino)).setCell ⟨gs, q * 2 + 1, none⟩ (.string e.nm)) := by
  have h1 := owns_setG (owns_setG h.own.slots hg (q * 2) (.int .i64 e.ino)) hg (q * 2 + 1) (.string e.nm)
  have h2 : Ey (setE y F).sn (setE y F).E = Ey y.sn F := rfl
  rw [h2, Ey_set y.sn F q hq e] at h1
  exact h.entry hg hap (fun g hne => (Below.heap_setCell _ _ _ _ hne).trans (Below.heap_setCell _ _ _ _ hne)) (((Below.refl gs W).setCell (Nat.le_refl _) _).setCell (Nat.le_refl _) _) h1
/-- A slot's number is written. -/
theorem RnI.ino (h : RnI w m N R nv rv O ov y F bx a W) {q gs : Nat} (hg : (slV y).ownBlock = some gs) (hap : ∀ k, k < O.length → (slV (O.getD k noZ)).ownBlock ≠ some gs) (hq : q < y.sn) (i : Int) : RnI w m N R nv rv O ov y (fun j => if j = q then ⟨i, (F q).nm⟩ else F j) bx a (W.setCell ⟨gs, q * 2, none⟩ (.int .i64 i)) := by
  have h1 := owns_setG h.own.slots hg (q * 2) (.int .i64 i)
  have h2 : Ey (setE y F).sn (setE y F).E = Ey y.sn F := rfl
  rw [h2, Ey_set1 y.sn F q hq i] at h1
  exact h.entry hg hap (fun g hne => Below.heap_setCell _ _ _ _ hne) ((Below.refl gs W).setCell (Nat.le_refl _) _) h1
/-- A number is set. -/
theorem RnI.set (h : RnI w m N R nv rv O ov y F bx a W) {g t : Nat} (hg : nv.ownBlock = some g) (hn : t ∉ N) : RnI w m (N ++ [t]) R nv rv O ov y F bx a (W.setCell ⟨g, t, none⟩ (.int .i64 ((N.length : Int) + 1))) := by
  obtain ⟨hb, -, cs, hk⟩ := owns_kind h.j.nums g hg
  exact ⟨h.j.set hg hn, h.own.keptI (fun b cs2 t2 h2 ht => Below.heap_setCell _ _ _ _ (ty_ne h2 hk ht.2)), (Below.heap_setCell _ _ _ _ (ty_ne h.box hk (by decide))).trans h.box⟩
/-- The order grows. -/
theorem RnI.rows (h : RnI w m N R nv rv O ov y F bx a W) {S : List Nat} {rv' : Value} (hn : W'.ownsRow w.heap.size 3 1 rv' S.length (Iz S)) (hg : W.grownBy W' rv.ownBlock) (hv : rv'.ownBlock = rv.ownBlock ∨ ∀ k, rv'.ownBlock = some k → W.heap.size ≤ k) : RnI w m N S nv rv' O ov y F bx a W' := by
  have hb : ∀ {g : Nat} {cs} {t : TypeId}, W.heap[g]? = some (.cells cs t (0, 0)) → t ≠ 3 → W'.heap[g]? = W.heap[g]? := fun {g cs t} h1 ht => hg.block g (lt_of_block h1) (fun e => by
    obtain ⟨-, -, cs2, h2⟩ := owns_kind h.j.row g e.symm
    exact ty_ne h2 h1 (fun e => ht e.symm) rfl)
  exact ⟨h.j.rows hn hg hv, h.own.keptI (fun b cs t h2 ht => hb h2 ht.2), (hb h.box (by decide)).trans h.box⟩
end
theorem OwN.base {W : World} {b b' q : Nat} {x : NoV} (h : OwN W b q x) (hb : b' ≤ b) : OwN W b' q x := ⟨owns_base h.slots hb, owns_base h.parts hb, fun k hk => owns_base (h.data k hk) hb⟩
/-- The copy of a node, its slots still as they were. -/
theorem OwN.says {W : World} {b q : Nat} {y : NoV} {F : Nat → EnV} (h : OwN W b q y) (he : ∀ j, j < y.sn → y.E j = F j) : OwN W b q (setE y F) := by
  refine ⟨?_, h.parts, h.data⟩
  have h1 := h.slots
  have e : Ey y.sn y.E = Ey (setE y F).sn (setE y F).E := Ey_congr he
  rw [e] at h1
  exact h1
end Go.Proofs.Ytbahbhaoimabdaa
namespace Go.Proofs.Ytbahbhaoimabdaa
open Go Go.Proofs Go.RowKit Go.Shelf

set_option maxRecDepth 100000 in
set_option maxHeartbeats 4000000 in
theorem rrenumber_none (w : World) (ao : Option Addr) (m cc : Nat) (Nd : Nat → NoV) (hN : NoAt w ao m Nd) (hm : m ≤ 16777216) (h0 : firstN m Nd 1 = none) : Calls Try.prog 17 #[.slice ao m cc] w fun e w' => e = .returned (.slice none 0 0) ∧ Below w.heap.size w w' := by
  have HAT := Hid.mk (at_any w ao m cc Nd 1 hN hm)
  have hat : atS m Nd 1 = -1 := by unfold atS; rw [h0]
  rw [hat] at HAT
  clear hN hm h0 hat
  go_enter Try.func17, Try.ntmps17
  go_wp2_with (go_at_call 20; refine HAT.out.mono ?_; rintro e w2 ⟨rfl, hw2⟩; subst hw2)
  refine bodyPost_ret (results_tmp rfl _ _ _) rfl ?_
  exact ⟨rfl, Below.refl _ _⟩
theorem makeZ_run (w : World) (n : Nat) (hn : n ≤ 16777216) : (Instr.makeSlice 65 (.int .i64 n) (.int .i64 n)).run Try.prog w = .ok (.slice (some ⟨w.heap.size, 0, none⟩) n n) (w.alloc (.cells (Array.replicate n (.int .i64 0)) 3)) := by
  obtain ⟨i0, hi, hz0, hz1, hz2⟩ := info_parts infoI
  rw [run_makeSlice (P := Try.prog) w 65 3 i0 (.int .i64 0) Try.underlying65 hi hz0 .i64 .i64 n n (by omega) (by omega) (by rw [hz1]; simp; omega) (by rw [hz2]; omega) (by omega)]
  have e : madeCells (Value.int .i64 0).cells ((n : Int).toNat * i0.size) = Array.replicate n (.int .i64 0) := by
    rw [hz1]
    apply Array.ext'
    rw [show (Array.replicate n (Value.int .i64 0)).toList = List.replicate n (Value.int .i64 0) by simp, List.eq_replicate_iff]
    simp [madeCells, Value.cells, Nat.mod_one]
  rw [e]
  simp
theorem exec_stI {ev : Operand → Value} {oi : Oper} {p x : Operand} {a : Addr} {n : Int} {v : Value} {W : World} (ho : oi.op = .store 3 p x) (hp : ev p = .pointer (some a)) (hx : ev x = .int .i64 n) (hc : W.cell? a = some v) (hf : W.frozen? a = false) : (execOp ev oi).run Try.prog W = .ok .skip (W.setCell a (.int .i64 n)) := by
  refine exec_store ho hp hx ?_
  simp [go_sem, hc, hf]
/-- Between two nodes. -/
structure RnO (w : World) (m : Nat) (Nd : Nat → NoV) (r a : Nat) (nv rv : Value) (O : List NoV) (ov : Value) (W : World) : Prop where
  j : RnJ w m (rowN m Nd r a) (rowN m Nd r a) nv rv O ov W
  len : O.length = a
  val : ∀ i, i < a → SameV (O.getD i noZ) (outN m Nd r i)
  le : a ≤ (rowN m Nd r a).length
set_option maxRecDepth 100000 in
set_option maxHeartbeats 4000000 in
theorem rrenumber_some (w : World) (ao : Option Addr) (m cc : Nat) (Nd : Nat → NoV) (hN : NoAt w ao m Nd) (hm : m ≤ 16777216) (hs : ∀ i, i < m → (Nd i).sn ≤ 16777216 ∧ (Nd i).bn ≤ 16777216 ∧ ∀ k, k < (Nd i).bn → ((Nd i).P k).m ≤ 16777216) (r : Nat) (h0 : firstN m Nd 1 = some r) : Calls Try.prog 17 #[.slice ao m cc] w fun e w' => ∃ ov k O nv rv, e = .returned ov ∧ k = (rowN m Nd r k).length ∧ RnO w m Nd r k nv rv O ov w' := by
  have HCP : Hid (∀ (W : World) (p : Nat), Below w.heap.size w W → p < m → Calls Try.prog 29 #[(Nd p).val] W fun e w' => ∃ y : NoV, e = .returned (.agg #[.int .i64 y.ino, .int .i64 y.kind, .int .i64 y.links, .int .i64 y.size, .slice y.bo y.bn y.bc, .slice y.so y.sn y.sc]) ∧ SameV y (Nd p) ∧ OwN w' W.heap.size y.bn y ∧ Below W.heap.size W w') := Hid.mk (fun W p hB hp => by
    obtain ⟨-, -, -, -, -, hP, hE, -⟩ := no_at (hN.blw hB) hp
    exact rcopied_any W (Nd p) hP hE (hs p hp).1 (hs p hp).2.1 (hs p hp).2.2)
  have HSZ := Hid.mk hs
  clear hs
  have HAT := Hid.mk (fun (W : World) (ino : Int) (h : NoAt W ao m Nd) => at_any W ao m cc Nd ino h hm)
  have hat : atS m Nd 1 = (r : Int) := by unfold atS; rw [h0]
  have HM := Hid.mk hm
  have hrm := (firstN_some h0).1
  have hr0 : (0 : Int) ≤ (r : Int) := by omega
  have hrM : (r : Int) < (m : Int) := by omega
  have HA1 := Hid.mk (HAT.out w 1 hN)
  rw [hat] at HA1
  have HN := Hid.mk hN
  clear hN hm h0 hat
  go_enter Try.func17, Try.ntmps17
  go_upto_region 6 with (first
    | (go_at_call 20; refine HA1.out.mono ?_; rintro e w2 ⟨rfl, hw2⟩; subst hw2)
    | (rw [makeZ_run _ m HM.out]; simp only [Result.andThen_ok]))
  obtain ⟨X, hX⟩ : ∃ X, X = ((w2.alloc (.cells (Array.replicate m (.int .i64 0)) 3)).alloc (.cells #[.int .i64 (r : Int)] 3)) := ⟨_, rfl⟩
  have hBX : Below w2.heap.size w2 X := by rw [hX]; exact ((Below.refl _ w2).alloc (Nat.le_refl _) _).alloc (by simp) _
  have g0 : X.heap[w2.heap.size]? = some (.cells (Array.replicate m (.int .i64 0)) 3 (0, 0)) := by rw [hX]; exact two_old w2 _ _
  have g1 : X.heap[w2.heap.size + 1]? = some (.cells #[.int .i64 (r : Int)] 3 (0, 0)) := by rw [hX]; exact two_new w2 _ _
  have hmm := HM.out
  have hJ0 : RnJ w2 m [] [r] (.slice (some ⟨w2.heap.size, 0, none⟩) m m) (.slice (some ⟨w2.heap.size + 1, 0, none⟩) 1 1) [] (.slice none 0 0) X :=
    ⟨⟨by rw [nuL_nil]; simp, .inr ⟨w2.heap.size, m, _, rfl, Nat.le_refl _, g0, Nat.le_refl _, by unfold maxLen; omega, by simp, by rw [nuL_nil]; simp⟩⟩, ⟨rfl, .inr ⟨w2.heap.size + 1, 1, _, rfl, by omega, g1, Nat.le_refl _, by decide, rfl, rfl⟩⟩, World.ownsRow_nil _ _ _ _, fun k hk => absurd hk (Nat.not_lt_zero k), fun g e1 e2 => (by have h1 : w2.heap.size = g := Option.some.inj e1; have h2 : w2.heap.size + 1 = g := Option.some.inj e2; omega), hBX⟩
  have hn0 := owns_cellG hJ0.nums rfl r (by omega)
  rw [nuL_cell m [] r hrm] at hn0
  obtain ⟨k0, k0f⟩ := hn0
  have HJ : Hid (RnJ w2 m [r] [r] (.slice (some ⟨w2.heap.size, 0, none⟩) m m) (.slice (some ⟨w2.heap.size + 1, 0, none⟩) 1 1) [] (.slice none 0 0) (X.setCell ⟨w2.heap.size, r, none⟩ (.int .i64 1))) := Hid.mk (hJ0.set (g := w2.heap.size) (t := r) rfl (by simp))
  rw [← hX]
  clear hX hBX g0 g1 hJ0 HA1
  have HO0 : Hid (RnO w2 m Nd r 0 (.slice (some ⟨w2.heap.size, 0, none⟩) m m) (.slice (some ⟨w2.heap.size + 1, 0, none⟩) 1 1) [] (.slice none 0 0) (X.setCell ⟨w2.heap.size, r, none⟩ (.int .i64 1))) := Hid.mk ⟨HJ.out, rfl, fun i hi => absurd hi (Nat.not_lt_zero i), Nat.zero_le _⟩
  have HST : Hid ((Value.slice (some ⟨w2.heap.size + 1, 0, none⟩) 1 1) = (Value.slice (some ⟨w2.heap.size + 1, 0, none⟩) (rowN m Nd r 0).length 1)) := Hid.mk rfl
  have HRL := Hid.mk hrm
  go_wp2
  clear k0 k0f HJ
  generalize X.setCell ⟨w2.heap.size, r, none⟩ (.int .i64 1) = X2 at *
  go_loopw [5, 6, 7] (fun rv ov iv wr => ∃ (a : Nat) (ra : Option Addr) (rc : Nat) (O : List NoV), rv = .slice ra (rowN m Nd r a).length rc ∧ iv = .int .i64 (a : Int) ∧ Hid (RnO w2 m Nd r a (.slice (some ⟨w2.heap.size, 0, none⟩) m m) rv O ov wr)) (fun _ _ iv _ => ((m : Int) - Go.RowKit.intOf iv).toNat)
  case atStart => exact ⟨0, _, _, _, HST.out, rfl, HO0⟩
  case round =>
    obtain ⟨a, ra, rc, O, rfl, rfl, HK⟩ := hrel
    have hRO := rowN_ok (Nd := Nd) HRL.out a
    have hRm := hRO.length
    have hm1 := HM.out
    by_cases hlt : a < (rowN m Nd r a).length
    · have hpm : pN m Nd r a < m := hRO.lt _ (by
        have h1 : (rowN m Nd r a).getD a 0 = (rowN m Nd r a)[a] := (List.getElem_eq_getD 0).symm
        unfold pN
        rw [h1]
        exact List.getElem_mem _)
      obtain ⟨rg, rc', e, hbr, hrl, hro, -⟩ := owns_some HK.out.j.row (by omega)
      cases e
      have x0 : wr.cell? ⟨rg, a, none⟩ = some (.int .i64 ((pN m Nd r a : Nat) : Int)) := (owns_cellG HK.out.j.row hro a (by omega)).1.trans (Iz_get _ a hlt)
      obtain ⟨fl, ol, hao, -, ⟨z0, z1, z2, z3, z4, z5⟩, -, -, -⟩ := no_at (HN.out.blw HK.out.j.below) hpm
      obtain ⟨R, hR⟩ : ∃ R, R = rowN m Nd r a := ⟨_, rfl⟩
      obtain ⟨p, hp⟩ : ∃ p, p = pN m Nd r a := ⟨_, rfl⟩
      rw [← hp] at x0 hpm z0 z1 z2 z3 z4 z5
      rw [← hR] at hRm hlt ⊢
      have ha0 : (0 : Int) ≤ (a : Int) := by omega
      have har : (a : Int) < (R.length : Int) := by omega
      have hp0 : (0 : Int) ≤ (p : Int) := by omega
      have hpi : (p : Int) < (m : Int) := by omega
      have haw : IntKind.i64.wrap ((a : Int) + 1) = (a : Int) + 1 := by rw [IntKind.wrap_i64]; omega
      have HRP := Hid.mk (And.intro hR hp)
      have HC := Hid.mk (HCP.out wr p HK.out.j.below hpm)
      have HAO := Hid.mk hao
      have HAM : Hid (a < m) := Hid.mk (by omega)
      rw [hao]
      clear hR hp hbr hrl hro hRm hao hRO
      go_upto_region 12 with (go_at_call 29; refine HC.out.mono ?_; rintro e w3 ⟨y, rfl, hy1, hy2, hy3⟩)
      obtain ⟨X1, hX1⟩ : ∃ X1, X1 = w3.alloc (.cells #[.int .i64 y.ino, .int .i64 y.kind, .int .i64 y.links, .int .i64 y.size, .slice y.bo y.bn y.bc, .slice y.so y.sn y.sc] 39) := ⟨_, rfl⟩
      have hBX : Below w3.heap.size w3 X1 := by rw [hX1]; exact (Below.refl _ w3).alloc (Nat.le_refl _) _
      have gX1 : X1.heap[w3.heap.size]? = some (.cells #[.int .i64 y.ino, .int .i64 y.kind, .int .i64 y.links, .int .i64 y.size, .slice y.bo y.bn y.bc, .slice y.so y.sn y.sc] 39 (0, 0)) := by rw [hX1]; exact blk_new w3 _
      have hws := HK.out.j.below.size
      have hJ1 := (HK.out.j.blw hy3).blw hBX
      have hO1 := (hy2.blw hBX).base hws
      have hap : ∀ k, k < O.length → ∀ g, (slV y).ownBlock = some g → (slV (O.getD k noZ)).ownBlock ≠ some g := fun k hk g e1 e2 => by
        have h1 := (owns_kind (HK.out.j.own k hk).slots g e2).2.1
        have h2 := (owns_kind hy2.slots g e1).1
        omega
      have HAP := Hid.mk hap
      rw [← hX1]
      generalize hbx : w3.heap.size = bx at *
      have c0f : X1.frozen? ⟨bx, 0, none⟩ = false := by simp [World.frozen?, gX1]
      have gX2 := blk_set (i := 0) (u := .int .i64 ((a : Int) + 1)) gX1
      simp only [List.setIfInBounds_toArray, List.set_cons_zero] at gX2
      have hXs : ∀ b, b ≠ bx → (X1.setCell ⟨bx, 0, none⟩ (.int .i64 ((a : Int) + 1))).heap[b]? = X1.heap[b]? := fun b hb => Below.heap_setCell _ _ _ _ hb
      have hB2 : Below w3.heap.size X1 (X1.setCell ⟨bx, 0, none⟩ (.int .i64 ((a : Int) + 1))) := (Below.refl _ X1).setCell (by show w3.heap.size ≤ bx; omega) _
      have hB2' : Below w3.heap.size w3 (X1.setCell ⟨bx, 0, none⟩ (.int .i64 ((a : Int) + 1))) := by rw [← hbx] at hBX; exact hBX.trans hB2
      have HI0 : Hid (RnI w2 m (rowS m Nd (Nd p).E R 0) (rowS m Nd (Nd p).E R 0) (.slice (some ⟨w2.heap.size, 0, none⟩) m m) (.slice (some ⟨rg, 0, none⟩) (rowS m Nd (Nd p).E R 0).length rc) O u6 y (fun j => if j < 0 then numE m Nd (Nd p).E R j else (Nd p).E j) bx a (X1.setCell ⟨bx, 0, none⟩ (.int .i64 ((a : Int) + 1)))) := Hid.mk ⟨by
          have h1 := (HK.out.j.blw hy3).blw hB2'
          rw [← HRP.out.1] at h1
          exact h1, ((hy2.blw hB2').base hws).says (fun j hj => by rw [if_neg (by omega)]; exact hy1.E j hj), gX2⟩
      have HST2 : Hid (Value.slice (some ⟨rg, 0, none⟩) R.length rc = Value.slice (some ⟨rg, 0, none⟩) (rowS m Nd (Nd p).E R 0).length rc) := Hid.mk rfl
      have HY := Hid.mk hy1
      have c0 := blk_cell gX1 0
      simp at c0
      clear hX1 hBX gX1 hJ1 hO1 hap gX2 hXs hB2 hB2' hbx x0 z0 z1 z2 z3 z4 z5 hy1 hy2 hy3 HC
      go_upto_region 13 with fail
      clear c0 c0f
      generalize X1.setCell ⟨bx, 0, none⟩ (.int .i64 ((a : Int) + 1)) = X2 at *
      have c5 := blk_cell HI0.out.box 5
      simp at c5
      go_wp2
      go_loopw [5, 9] (fun rv iv w5 => ∃ (q : Nat) (qa : Option Addr) (qc : Nat), rv = .slice qa (rowS m Nd (Nd p).E R q).length qc ∧ q ≤ y.sn ∧ iv = .int .i64 (q : Int) ∧ Hid (RnI w2 m (rowS m Nd (Nd p).E R q) (rowS m Nd (Nd p).E R q) (.slice (some ⟨w2.heap.size, 0, none⟩) m m) rv O u6 y (fun j => if j < q then numE m Nd (Nd p).E R j else (Nd p).E j) bx a w5)) (fun _ iv _ => ((y.sn : Int) - Go.RowKit.intOf iv).toNat)
      case atStart => exact ⟨0, _, _, HST2.out, by omega, rfl, HI0⟩
      case round =>
        clear HI0 HST2 c5 HST
        obtain ⟨q, qa, qc, rfl, hq, rfl, HK2⟩ := hrel
        have b5 := blk_cell HK2.out.box 5
        simp at b5
        by_cases hlq : q < y.sn
        · have hown : wr.ownsRow w2.heap.size 41 2 (slV y) y.sn (Ey y.sn (fun j => if j < q then numE m Nd (Nd p).E R j else (Nd p).E j)) := HK2.out.own.slots
          obtain ⟨gs, sc', e, hbs, hgsl, hso, -⟩ := owns_some hown (by omega)
          unfold slV at e
          injection e with e1 e2 e3
          obtain ⟨k0, k0f⟩ := owns_cellG hown hso (q * 2) (by omega)
          obtain ⟨k1, k1f⟩ := owns_cellG hown hso (q * 2 + 1) (by omega)
          replace k0 := k0.trans (Ey_get y.sn _ q hlq).1
          replace k1 := k1.trans (Ey_get y.sn _ q hlq).2
          rw [if_neg (Nat.lt_irrefl q)] at k0 k1
          obtain ⟨en, hen⟩ : ∃ en, en = (Nd p).E q := ⟨_, rfl⟩
          rw [← hen] at k0 k1
          have hq0 : (0 : Int) ≤ (q : Int) := by omega
          have hqs : (q : Int) < (y.sn : Int) := by omega
          have hqq : IntKind.i64.wrap ((q : Int) + 1) = (q : Int) + 1 := by have := (HSZ.out p hpm).1; have := HY.out.sn; rw [IntKind.wrap_i64]; omega
          have HEN := Hid.mk hen
          have HE1 := Hid.mk e1
          have HSO : Hid ((slV y).ownBlock = some gs) := Hid.mk hso
          have HAPg : Hid (∀ k, k < O.length → (slV (O.getD k noZ)).ownBlock ≠ some gs) := Hid.mk (fun k hk => HAP.out k hk gs hso)
          have HAE := Hid.mk (HAT.out wr en.ino (HN.out.blw HK2.out.j.below))
          rw [e1] at b5
          clear hen e1 e2 e3 hbs hgsl hso hown
          by_cases h0 : en.ino = 0
          · have h0b : (en.ino == 0) = true := by simpa using h0
            have HLD : Hid (leadS m Nd en = none) := Hid.mk (by unfold leadS; rw [if_pos h0])
            rw [h0] at k0
            go_wp2
            obtain ⟨n1, n2⟩ := numE_none (R := R) (show leadS m Nd ((Nd p).E q) = none by rw [← HEN.out]; exact HLD.out)
            refine ⟨⟨q + 1, qa, qc, by rw [n2], hlq, by push_cast; rfl, Hid.mk ?_⟩, by simp [Go.RowKit.intOf]; omega⟩
            rw [n2]
            exact (HK2.out.both HSO.out HAPg.out hlq enZ).say (fun j hj => next_if n1)
          · have h0b : (en.ino == 0) = false := by simpa using h0
            obtain ⟨at', hat⟩ : ∃ z, z = atS m Nd en.ino := ⟨_, rfl⟩
            rw [← hat, HAO.out] at HAE
            have HAT2 := Hid.mk hat
            clear hat
            go_upto_region 19 with (go_at_call 20; refine HAE.out.mono ?_; rintro e w6 ⟨rfl, hw6⟩; replace hw6 := hw6.symm; subst hw6)
            cases hf : firstN m Nd en.ino with
            | none =>
              have HLD : Hid (leadS m Nd en = none) := Hid.mk (by unfold leadS; rw [if_neg h0]; exact hf)
              obtain rfl : at' = -1 := by rw [HAT2.out]; unfold atS; rw [hf]
              go_wp2
              obtain ⟨n1, n2⟩ := numE_none (R := R) (show leadS m Nd ((Nd p).E q) = none by rw [← HEN.out]; exact HLD.out)
              refine ⟨⟨q + 1, qa, qc, by rw [n2], hlq, by push_cast; rfl, Hid.mk ?_⟩, by simp [Go.RowKit.intOf]; omega⟩
              rw [n2]
              exact (HK2.out.both HSO.out HAPg.out hlq enZ).say (fun j hj => next_if n1)
            | some t =>
              have HLD : Hid (leadS m Nd en = some t) := Hid.mk (by unfold leadS; rw [if_neg h0]; exact hf)
              obtain rfl : at' = (t : Int) := by rw [HAT2.out]; unfold atS; rw [hf]
              have htm := (firstN_some hf).1
              have ht0 : (0 : Int) ≤ (t : Int) := by omega
              have htM : (t : Int) < (m : Int) := by omega
              have hN0 := owns_cellG HK2.out.j.nums rfl t (by omega)
              rw [nuL_cell m _ t htm] at hN0
              obtain ⟨j0, j0f⟩ := hN0
              replace j0 : wr.cell? ⟨w2.heap.size, t, none⟩ = _ := j0
              by_cases ht : t ∈ rowS m Nd (Nd p).E R q
              · rw [if_pos ht] at j0
                have hnz : ((((rowS m Nd (Nd p).E R q).idxOf t + 1 : Nat) : Int) == 0) = false := by rw [beq_eq_false_iff_ne]; omega
                obtain ⟨ix, hix⟩ : ∃ ix, ix = (((rowS m Nd (Nd p).E R q).idxOf t + 1 : Nat) : Int) := ⟨_, rfl⟩
                rw [← hix] at j0 hnz
                have HIX := Hid.mk hix
                clear hix
                go_upto_region 24 with fail
                have HSS : Hid (∀ A : World, (∀ b, b ≠ gs → A.heap[b]? = wr.heap[b]?) → A.cell? ⟨bx, 5, none⟩ = some (.slice (some ⟨gs, 0, none⟩) y.sn y.sc) ∧ A.cell? ⟨w2.heap.size, t, none⟩ = some (.int .i64 ix)) := Hid.mk (fun A hA => by
                  obtain ⟨-, -, cs3, hk3⟩ := owns_kind HK2.out.own.slots gs HSO.out
                  obtain ⟨-, -, cs4, hk4⟩ := owns_kind HK2.out.j.nums _ rfl
                  exact ⟨(World.cell?_of_block (w := wr) (hA bx (ty_ne HK2.out.box hk3 (by decide)))).trans b5, (World.cell?_of_block (w := wr) (hA w2.heap.size (ty_ne hk4 hk3 (by decide)))).trans j0⟩)
                have HKG : Hid (wr.drew.cell? ⟨gs, q * 2, none⟩ = some (.int .i64 en.ino) ∧ wr.drew.frozen? ⟨gs, q * 2, none⟩ = false) := Hid.mk ⟨k0, k0f⟩
                refine wp_region_held_drew (S := fun (A : World) => A.cell? ⟨bx, 5, none⟩ = some (.slice (some ⟨gs, 0, none⟩) y.sn y.sc) ∧ A.cell? ⟨w2.heap.size, t, none⟩ = some (.int .i64 ix)) (by kernel_rfl) (HSS.out _ (fun _ _ => rfl)) (fun hH => ?_)
                change wpAnyH Try.prog Region.Mode.any _ _ _ 10 _ _ _
                refine takeH 0 83 (.pointer (some ⟨bx, 5, none⟩)) rfl (by kernel_rfl) (by kernel_rfl) (by kernel_rfl) (by kernel_rfl) (fun _ _ _ h => h) (by kernel_rfl) (fun w hw => by (try dsimp only at hw); go_simp) hH ?_
                simp only [List.setIfInBounds_toArray, List.set_cons_zero, List.set_cons_succ]
                refine takeH 1 84 (.slice (some ⟨gs, 0, none⟩) y.sn y.sc) rfl (by kernel_rfl) (by kernel_rfl) (by kernel_rfl) (by kernel_rfl) (fun _ _ _ h => h) (by kernel_rfl) (fun w hw => by (try dsimp only at hw); go_simp) hH ?_
                simp only [List.setIfInBounds_toArray, List.set_cons_zero, List.set_cons_succ]
                refine takeH 2 85 (.int .i64 (q : Nat)) rfl (by kernel_rfl) (by kernel_rfl) (by kernel_rfl) (by kernel_rfl) (fun _ _ _ h => h) (by kernel_rfl) (fun w hw => by (try dsimp only at hw); go_simp) hH ?_
                simp only [List.setIfInBounds_toArray, List.set_cons_zero, List.set_cons_succ]
                refine takeH 3 86 (.slice (some ⟨w2.heap.size, 0, none⟩) m m) rfl (by kernel_rfl) (by kernel_rfl) (by kernel_rfl) (by kernel_rfl) (fun _ _ _ h => h) (by kernel_rfl) (fun w hw => by (try dsimp only at hw); go_simp) hH ?_
                simp only [List.setIfInBounds_toArray, List.set_cons_zero, List.set_cons_succ]
                refine takeH 4 87 (.int .i64 (t : Nat)) rfl (by kernel_rfl) (by kernel_rfl) (by kernel_rfl) (by kernel_rfl) (fun _ _ _ h => h) (by kernel_rfl) (fun w hw => by (try dsimp only at hw); go_simp) hH ?_
                simp only [List.setIfInBounds_toArray, List.set_cons_zero, List.set_cons_succ]
                refine takeH 5 88 (.pointer (some ⟨w2.heap.size, t, none⟩)) rfl (by kernel_rfl) (by kernel_rfl) (by kernel_rfl) (by kernel_rfl) (fun _ _ _ h => h) (by kernel_rfl) (fun w hw => by (try dsimp only at hw); go_simp) hH ?_
                simp only [List.setIfInBounds_toArray, List.set_cons_zero, List.set_cons_succ]
                refine takeH 6 89 (.int .i64 ix) rfl (by kernel_rfl) (by kernel_rfl) (by kernel_rfl) (by kernel_rfl) (fun _ _ _ h => h) (by kernel_rfl) (fun w hw => by (try dsimp only at hw); go_simp) hH ?_
                simp only [List.setIfInBounds_toArray, List.set_cons_zero, List.set_cons_succ]
                refine takeH 7 90 (.pointer (some ⟨gs, q * 2, none⟩)) rfl (by kernel_rfl) (by kernel_rfl) (by kernel_rfl) (by kernel_rfl) (fun _ _ _ h => h) (by kernel_rfl) (fun w hw => by (try dsimp only at hw); go_simp) hH ?_
                simp only [List.setIfInBounds_toArray, List.set_cons_zero, List.set_cons_succ]
                refine takeH 8 91 (.pointer (some ⟨gs, q * 2, none⟩)) rfl (by kernel_rfl) (by kernel_rfl) (by kernel_rfl) (by kernel_rfl) (fun _ _ _ h => h) (by kernel_rfl) (fun w hw => by (try dsimp only at hw); go_simp) hH ?_
                simp only [List.setIfInBounds_toArray, List.set_cons_zero, List.set_cons_succ]
                refine stepH_one 9 (by kernel_rfl) ?_
                refine opH_store 9 (wr.drew.setCell ⟨gs, q * 2, none⟩ (.int .i64 ix)) rfl (by kernel_rfl) (by kernel_rfl) (exec_stI (p := .tmp 91) (x := .tmp 89) rfl (by kernel_rfl) (by kernel_rfl) HKG.out.1 HKG.out.2) (HSS.out _ (fun b hb => Below.heap_setCell _ _ _ _ hb)) ?_
                refine wpAnyH_done (by kernel_rfl) ?_ _
                go_wp2
                obtain ⟨n1, n2⟩ := numE_old (R := R) (show leadS m Nd ((Nd p).E q) = some t by rw [← HEN.out]; exact HLD.out) ht
                refine ⟨⟨q + 1, qa, qc, by rw [n2], hlq, by push_cast; rfl, Hid.mk ?_⟩, by simp [Go.RowKit.intOf]; omega⟩
                rw [n2]
                refine ((HK2.out.ino HSO.out HAPg.out hlq ix).say (fun j hj => ?_)).blw (Below.refl _ _).drew
                rw [if_neg (Nat.lt_irrefl q)]
                exact next_if (n1.trans (by rw [HIX.out]; push_cast; rfl))
              · skip
                rw [if_neg ht] at j0
                have hRO : RowOk m R := by rw [HRP.out.1]; exact rowN_ok HRL.out a
                obtain ⟨n1, n2⟩ := numE_new (R := R) (show leadS m Nd ((Nd p).E q) = some t by rw [← HEN.out]; exact HLD.out) ht
                have hR2 := (rowS_ok (Nd := Nd) (E := (Nd p).E) hRO (q + 1)).1.length
                rw [n2, List.length_append, List.length_singleton] at hR2
                have hsz := HK2.out.j.below.size
                obtain ⟨rv', X7, har, hown7, hg7, hat7⟩ := appendZ_run2 wr w2.heap.size (.slice qa (rowS m Nd (Nd p).E R q).length qc) (rowS m Nd (Nd p).E R q) t HK2.out.j.row hsz (by omega)
                have hI6 := HK2.out.blw ((Below.refl _ wr).alloc (Nat.le_refl _) (.cells #[.int .i64 ((t : Nat) : Int)] 3))
                have hI7 := hI6.rows hown7 hg7 (by
                  rcases hat7 with h | h
                  · exact .inl h
                  · exact .inr (fun k hk => by rw [h] at hk; cases hk; simp))
                obtain ⟨qa', qc', rfl, -, -⟩ := owns_val hown7
                have hI8 := hI7.set (t := t) rfl ht
                have hn7 := owns_cellG hI7.j.nums rfl t (by omega)
                rw [nuL_cell m _ t htm, if_neg ht] at hn7
                obtain ⟨m0, m0f⟩ := hn7
                have HAR := Hid.mk har
                obtain ⟨X8, hX8⟩ : ∃ X8, X8 = X7.setCell ⟨w2.heap.size, t, none⟩ (.int .i64 (((rowS m Nd (Nd p).E R q).length : Int) + 1)) := ⟨_, rfl⟩
                replace hI8 : RnI w2 m (rowS m Nd (Nd p).E R q ++ [t]) (rowS m Nd (Nd p).E R q ++ [t]) (.slice (some ⟨w2.heap.size, 0, none⟩) m m) (.slice qa' (rowS m Nd (Nd p).E R q ++ [t]).length qc') O u6 y (fun j => if j < q then numE m Nd (Nd p).E R j else (Nd p).E j) bx a X8 := by rw [hX8]; exact hI8
                have HI8 := Hid.mk hI8
                have HN12 := Hid.mk (And.intro n1 n2)
                have hlw : ((rowS m Nd (Nd p).E R q ++ [t]).length : Int) = ((rowS m Nd (Nd p).E R q).length : Int) + 1 := by simp
                clear har hown7 hg7 hat7 hI6 hI7 hI8 n1 n2 hRO hR2
                go_upto_region 24 with (at_builtin; refine wpList_append_known rfl _ _ _ rfl _ _ _ _ rfl rfl HAR.out ?_; simp only [Act.put, List.setIfInBounds_toArray, List.set_cons_zero, List.set_cons_succ])
                rw [← hX8]
                clear hX8
                have b8 := blk_cell HI8.out.box 5
                simp at b8
                rw [HE1.out] at b8
                have hown8 : X8.ownsRow w2.heap.size 41 2 (slV y) y.sn (Ey y.sn (fun j => if j < q then numE m Nd (Nd p).E R j else (Nd p).E j)) := HI8.out.own.slots
                obtain ⟨l0, l0f⟩ := owns_cellG hown8 HSO.out (q * 2) (by omega)
                clear hown8
                replace l0 := l0.trans (Ey_get y.sn _ q hlq).1
                rw [if_neg (Nat.lt_irrefl q), ← HEN.out] at l0
                have hn8 := owns_cellG HI8.out.j.nums rfl t (by omega)
                rw [nuL_cell m _ t htm, if_pos (by simp), List.idxOf_append, if_neg ht] at hn8
                obtain ⟨j8, -⟩ := hn8
                replace j8 : X8.cell? ⟨w2.heap.size, t, none⟩ = _ := j8
                obtain ⟨ln, hln⟩ : ∃ ln, ln = ((rowS m Nd (Nd p).E R q).length : Int) + 1 := ⟨_, rfl⟩
                rw [show ((([t] : List Nat).idxOf t + (rowS m Nd (Nd p).E R q).length + 1 : Nat) : Int) = ln by rw [hln]; simp] at j8
                have HLN := Hid.mk hln
                have HSS : Hid (∀ A : World, (∀ b, b ≠ gs → A.heap[b]? = X8.heap[b]?) → A.cell? ⟨bx, 5, none⟩ = some (.slice (some ⟨gs, 0, none⟩) y.sn y.sc) ∧ A.cell? ⟨w2.heap.size, t, none⟩ = some (.int .i64 ln)) := Hid.mk (fun A hA => by
                  obtain ⟨-, -, cs3, hk3⟩ := owns_kind HI8.out.own.slots gs HSO.out
                  obtain ⟨-, -, cs4, hk4⟩ := owns_kind HI8.out.j.nums _ rfl
                  exact ⟨(World.cell?_of_block (w := X8) (hA bx (ty_ne HI8.out.box hk3 (by decide)))).trans b8, (World.cell?_of_block (w := X8) (hA w2.heap.size (ty_ne hk4 hk3 (by decide)))).trans j8⟩)
                have HKG : Hid (X8.drew.cell? ⟨gs, q * 2, none⟩ = some (.int .i64 en.ino) ∧ X8.drew.frozen? ⟨gs, q * 2, none⟩ = false) := Hid.mk ⟨l0, l0f⟩
                clear b8 l0 l0f j8 hln k0 k1 k0f k1f j0 j0f b5 m0 m0f
                refine wp_region_held_drew (S := fun (A : World) => A.cell? ⟨bx, 5, none⟩ = some (.slice (some ⟨gs, 0, none⟩) y.sn y.sc) ∧ A.cell? ⟨w2.heap.size, t, none⟩ = some (.int .i64 ln)) (by kernel_rfl) (HSS.out _ (fun _ _ => rfl)) (fun hH => ?_)
                change wpAnyH Try.prog Region.Mode.any _ _ _ 10 _ _ _
                refine takeH 0 83 (.pointer (some ⟨bx, 5, none⟩)) rfl (by kernel_rfl) (by kernel_rfl) (by kernel_rfl) (by kernel_rfl) (fun _ _ _ h => h) (by kernel_rfl) (fun w hw => by (try dsimp only at hw); go_simp) hH ?_
                simp only [List.setIfInBounds_toArray, List.set_cons_zero, List.set_cons_succ]
                refine takeH 1 84 (.slice (some ⟨gs, 0, none⟩) y.sn y.sc) rfl (by kernel_rfl) (by kernel_rfl) (by kernel_rfl) (by kernel_rfl) (fun _ _ _ h => h) (by kernel_rfl) (fun w hw => by (try dsimp only at hw); go_simp) hH ?_
                simp only [List.setIfInBounds_toArray, List.set_cons_zero, List.set_cons_succ]
                refine takeH 2 85 (.int .i64 (q : Nat)) rfl (by kernel_rfl) (by kernel_rfl) (by kernel_rfl) (by kernel_rfl) (fun _ _ _ h => h) (by kernel_rfl) (fun w hw => by (try dsimp only at hw); go_simp) hH ?_
                simp only [List.setIfInBounds_toArray, List.set_cons_zero, List.set_cons_succ]
                refine takeH 3 86 (.slice (some ⟨w2.heap.size, 0, none⟩) m m) rfl (by kernel_rfl) (by kernel_rfl) (by kernel_rfl) (by kernel_rfl) (fun _ _ _ h => h) (by kernel_rfl) (fun w hw => by (try dsimp only at hw); go_simp) hH ?_
                simp only [List.setIfInBounds_toArray, List.set_cons_zero, List.set_cons_succ]
                refine takeH 4 87 (.int .i64 (t : Nat)) rfl (by kernel_rfl) (by kernel_rfl) (by kernel_rfl) (by kernel_rfl) (fun _ _ _ h => h) (by kernel_rfl) (fun w hw => by (try dsimp only at hw); go_simp) hH ?_
                simp only [List.setIfInBounds_toArray, List.set_cons_zero, List.set_cons_succ]
                refine takeH 5 88 (.pointer (some ⟨w2.heap.size, t, none⟩)) rfl (by kernel_rfl) (by kernel_rfl) (by kernel_rfl) (by kernel_rfl) (fun _ _ _ h => h) (by kernel_rfl) (fun w hw => by (try dsimp only at hw); go_simp) hH ?_
                simp only [List.setIfInBounds_toArray, List.set_cons_zero, List.set_cons_succ]
                refine takeH 6 89 (.int .i64 ln) rfl (by kernel_rfl) (by kernel_rfl) (by kernel_rfl) (by kernel_rfl) (fun _ _ _ h => h) (by kernel_rfl) (fun w hw => by (try dsimp only at hw); go_simp) hH ?_
                simp only [List.setIfInBounds_toArray, List.set_cons_zero, List.set_cons_succ]
                refine takeH 7 90 (.pointer (some ⟨gs, q * 2, none⟩)) rfl (by kernel_rfl) (by kernel_rfl) (by kernel_rfl) (by kernel_rfl) (fun _ _ _ h => h) (by kernel_rfl) (fun w hw => by (try dsimp only at hw); go_simp) hH ?_
                simp only [List.setIfInBounds_toArray, List.set_cons_zero, List.set_cons_succ]
                refine takeH 8 91 (.pointer (some ⟨gs, q * 2, none⟩)) rfl (by kernel_rfl) (by kernel_rfl) (by kernel_rfl) (by kernel_rfl) (fun _ _ _ h => h) (by kernel_rfl) (fun w hw => by (try dsimp only at hw); go_simp) hH ?_
                simp only [List.setIfInBounds_toArray, List.set_cons_zero, List.set_cons_succ]
                refine stepH_one 9 (by kernel_rfl) ?_
                refine opH_store 9 (X8.drew.setCell ⟨gs, q * 2, none⟩ (.int .i64 ln)) rfl (by kernel_rfl) (by kernel_rfl) (exec_stI (p := .tmp 91) (x := .tmp 89) rfl (by kernel_rfl) (by kernel_rfl) HKG.out.1 HKG.out.2) (HSS.out _ (fun b hb => Below.heap_setCell _ _ _ _ hb)) ?_
                refine wpAnyH_done (by kernel_rfl) ?_ _
                go_wp2
                obtain ⟨n1, n2⟩ := HN12.out
                refine ⟨⟨q + 1, qa', qc', by rw [n2], hlq, by push_cast; rfl, Hid.mk ?_⟩, by simp [Go.RowKit.intOf]; omega⟩
                rw [n2]
                refine ((HI8.out.ino HSO.out HAPg.out hlq ln).say (fun j hj => ?_)).blw (Below.refl _ _).drew
                rw [if_neg (Nat.lt_irrefl q)]
                exact next_if (n1.trans (by rw [HLN.out]))
        · skip
          obtain rfl : q = y.sn := by omega
          have hsn := HY.out.sn
          have hRN : rowN m Nd r (a + 1) = rowS m Nd (Nd p).E R y.sn := by
            rw [hsn, HRP.out.2, rowN_next (by rw [← HRP.out.1]; exact hlt), ← HRP.out.1]
          have hRO : RowOk m R := by rw [HRP.out.1]; exact rowN_ok HRL.out a
          have hRl := hRO.length
          have hRS := (rowS_ok (Nd := Nd) (E := (Nd p).E) hRO y.sn).2.length_le
          have hsz := HK2.out.j.below.size
          have hOl := HK.out.len
          have hol := HK2.out.j.out
          rw [hOl] at hol
          obtain ⟨oa, oc, rfl, -, -⟩ := owns_val hol
          obtain ⟨z, hz⟩ : ∃ z : NoV, z = { y with ino := (a : Int) + 1, E := numE m Nd (Nd p).E R } := ⟨_, rfl⟩
          obtain ⟨ov', X9, har, hown9, hg9, -⟩ := appendN_run wr w2.heap.size (.slice oa a oc) a O z hol hsz (by omega)
          have hI9 := (HK2.out.say (G := numE m Nd (Nd p).E R) (fun j hj => if_pos hj)).blw ((Below.refl _ wr).alloc (Nat.le_refl _) (.cells (noC z).toArray 39))
          have hz9 : OwN (wr.alloc (.cells (noC z).toArray 39)) w2.heap.size z.bn z := by
            have h1 := hI9.own
            rw [hz] at h1 ⊢
            exact ⟨h1.slots, h1.parts, h1.data⟩
          have hJ9 := hI9.j.outs (p := z) (by rw [List.length_append, List.length_singleton, hOl]; exact hown9) hg9 hz9
          have HJ9 : Hid (RnO w2 m Nd r (a + 1) (.slice (some ⟨w2.heap.size, 0, none⟩) m m) (.slice qa (rowS m Nd (Nd p).E R y.sn).length qc) (O ++ [z]) ov' X9) := Hid.mk (by
            refine ⟨by rw [hRN]; exact hJ9, by rw [List.length_append, List.length_singleton, hOl], fun i hi => ?_, by rw [hRN]; omega⟩
            by_cases e : i < a
            · have e1 : (O ++ [z]).getD i noZ = O.getD i noZ := by simp [List.getD, List.getElem?_append_left (show i < O.length by omega)]
              rw [e1]
              exact HK.out.val i e
            · obtain rfl : i = a := by omega
              have e1 : (O ++ [z]).getD i noZ = z := by simp [List.getD, hOl]
              rw [e1, hz]
              have hy := HY.out
              have e2 : outN m Nd r i = { Nd p with ino := (i : Int) + 1, E := numE m Nd (Nd p).E R } := by
                unfold outN
                rw [← HRP.out.2, ← HRP.out.1]
              rw [e2]
              exact ⟨rfl, hy.kind, hy.links, hy.size, hy.sn, hy.bn, fun _ _ => rfl, hy.P⟩)
          rw [hz] at har
          have HAR := Hid.mk har
          simp only [noC] at HAR
          have HRN := Hid.mk hRN
          have b0 := blk_cell HK2.out.box 0
          have b1 := blk_cell HK2.out.box 1
          have b2 := blk_cell HK2.out.box 2
          have b3 := blk_cell HK2.out.box 3
          have b4 := blk_cell HK2.out.box 4
          simp at b0 b1 b2 b3 b4
          clear hRN hRO hRl hRS hsz hOl hol hz har hown9 hg9 hI9 hz9 hJ9 hsn
          go_wp2_with (at_builtin; refine wpList_append_known rfl _ _ _ rfl _ _ _ _ rfl rfl HAR.out ?_; simp only [Act.put, List.setIfInBounds_toArray, List.set_cons_zero, List.set_cons_succ])
          go_roundw
          case rel => exact ⟨a + 1, qa, qc, _, by rw [HRN.out], by push_cast; rfl, HJ9⟩
          case measure => have := HAM.out; simp [Go.RowKit.intOf]; omega
    · have hae : a = (rowN m Nd r a).length := by have := HK.out.le; omega
      have HAE := Hid.mk hae
      clear hae
      go_wp2
      refine bodyPost_ret (results_tmp rfl _ _ _) rfl ?_
      exact ⟨_, a, O, _, _, rfl, HAE.out, HK.out⟩
end Go.Proofs.Ytbahbhaoimabdaa
