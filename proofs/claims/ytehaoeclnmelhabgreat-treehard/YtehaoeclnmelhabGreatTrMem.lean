/-
  Nodes and trees as they lie in memory.
-/
import Derived.Test.YtehaoeclnmelhabGreatTrSpec
import Derived.Test.YtehaoeclnmelhabGreatTrMap
import Derived.Test.YtehaoeclnmelhabGreatPtSplit2
import Derived.Test.YtehaoeclnmelhabGreatBmMeta
import Derived.Test.YtehaoeclnmelhabGreatTell1
namespace Go.Proofs.YtehaoeclnmelhabGreat
open Go Go.Proofs Go.RowKit Go.Shelf
open Go.Maps (Keyed)

/-- Where a node's parts lie: its block, its map, the rows of its blocks; of a directory the row of its slots, and how many there is room for. -/
inductive Lay where
  | file (b m : Nat) (r : List Nat)
  | dir (b m s c : Nat)
def Lay.b : Lay → Nat
  | .file b _ _ => b
  | .dir b _ _ _ => b
def Lay.foot : Lay → List Nat
  | .file b m r => b :: m :: r
  | .dir b m s _ => [b, m, s]
theorem Lay.b_foot (L : Lay) : L.b ∈ L.foot := by cases L <;> simp [Lay.b, Lay.foot]
def ptrV (b : Nat) : Value := .pointer (some ⟨b, 0, none⟩)
/-- A node that may be none. -/
def optV (loc : Nat → Nat) : Option Nat → Value
  | none => .pointer none
  | some j => ptrV (loc j)
def slotC (loc : Nat → Nat) : Slt → List Value
  | none => [strV [], .pointer none]
  | some q => [strV q.2, ptrV (loc q.1)]
def slotCs (loc : Nat → Nat) (s : List Slt) : List Value := s.flatMap (slotC loc)
def plF (s : List Slt) : Lit → Option Value
  | .string p => if nameAt s p < s.length then some (.int .i64 (nameAt s p : Nat)) else none
  | _ => none
def usedN (s : List Slt) : Nat := (s.filter (fun o => o.isSome)).length
def flF (b : List (Int × List Int)) (r : List Nat) : Lit → Option Value
  | .int .i64 x => ((b.zip r).find? (fun q => decide (q.1.1 = x))).map (fun q => .slice (some ⟨q.2, 0, none⟩) 1024 1024)
  | _ => none
/-- No name stands twice; none is too long. -/
def namesOk (s : List Slt) : Prop := (∀ i a p, s[i]? = some (some (a, p)) → nameAt s p = i) ∧ ∀ a p, some (a, p) ∈ s → p.length ≤ 1000
structure DrAt (W : World) (loc : Nat → Nat) (b m r c : Nat) (l z : Int) (s : List Slt) : Prop where
  node : W.heap[b]? = some (.cells #[.int .i64 2, .int .i64 l, .int .i64 z, .map none, .slice (some ⟨r, 0, none⟩) s.length c, .map (some m)] 66 (0, 0))
  row : W.ownsRow 0 95 2 (.slice (some ⟨r, 0, none⟩) s.length c) s.length (slotCs loc s)
  places : MAt W 9 m (usedN s) (plF s)
  names : namesOk s
structure FlAt (W : World) (b m : Nat) (r : List Nat) (l z : Int) (p : List (Int × List Int)) : Prop where
  node : W.heap[b]? = some (.cells #[.int .i64 1, .int .i64 l, .int .i64 z, .map (some m), .slice none 0 0, .map none] 66 (0, 0))
  blocks : MAt W 3 m p.length (flF p r)
  len : r.length = p.length
  rows : ∀ (i : Nat) (x : Int × List Int) (q : Nat), p[i]? = some x → r[i]? = some q → W.heap[q]? = some (.cells (By x.2).toArray 5 (0, 0)) ∧ x.2.length = 1024
def NdAt (W : World) (loc : Nat → Nat) : Lay → Nd → Prop
  | .file b m r, .file l z p => FlAt W b m r l z p
  | .dir b m r c, .dir l z s => DrAt W loc b m r c l z s
  | _, _ => False
theorem DrAt.kept {W W' : World} {loc : Nat → Nat} {b m r c : Nat} {l z : Int} {s : List Slt} (h : DrAt W loc b m r c l z s) (hk : ∀ k ∈ [b, m, r], W'.heap[k]? = W.heap[k]?) : DrAt W' loc b m r c l z s :=
  ⟨(hk b (by simp)).trans h.node, owns_at h.row (fun k e => by cases e; exact hk r (by simp)), h.places.kept (hk m (by simp)), h.names⟩
theorem FlAt.kept {W W' : World} {b m : Nat} {r : List Nat} {l z : Int} {p : List (Int × List Int)} (h : FlAt W b m r l z p) (hk : ∀ k ∈ b :: m :: r, W'.heap[k]? = W.heap[k]?) : FlAt W' b m r l z p :=
  ⟨(hk b (by simp)).trans h.node, h.blocks.kept (hk m (by simp)), h.len, fun i x q hx hq => ⟨(hk q (by have := List.mem_of_getElem? hq; simp [this])).trans (h.rows i x q hx hq).1, (h.rows i x q hx hq).2⟩⟩
theorem NdAt.kept {W W' : World} {loc : Nat → Nat} {L : Lay} {d : Nd} (h : NdAt W loc L d) (hk : ∀ k ∈ L.foot, W'.heap[k]? = W.heap[k]?) : NdAt W' loc L d := by
  cases L <;> cases d <;> simp only [NdAt] at h ⊢
  · exact FlAt.kept h hk
  · exact DrAt.kept h hk
theorem NdAt.head {W : World} {loc : Nat → Nat} {L : Lay} {d : Nd} (h : NdAt W loc L d) : ∃ x y u, W.heap[L.b]? = some (.cells #[.int .i64 d.kind, .int .i64 d.links, .int .i64 d.size, x, y, u] 66 (0, 0)) := by
  cases L <;> cases d <;> simp only [NdAt] at h
  · exact ⟨_, _, _, h.node⟩
  · exact ⟨_, _, _, h.node⟩
theorem NdAt.kind_dir {W : World} {loc : Nat → Nat} {L : Lay} {l z : Int} {s : List Slt} (h : NdAt W loc L (.dir l z s)) : ∃ b m r c, L = .dir b m r c ∧ DrAt W loc b m r c l z s := by
  cases L with
  | file => exact h.elim
  | dir b m r c => exact ⟨b, m, r, c, rfl, h⟩
theorem NdAt.kind_file {W : World} {loc : Nat → Nat} {L : Lay} {l z : Int} {p : List (Int × List Int)} (h : NdAt W loc L (.file l z p)) : ∃ b m r, L = .file b m r ∧ FlAt W b m r l z p := by
  cases L with
  | file b m r => exact ⟨b, m, r, rfl, h⟩
  | dir => exact h.elim
/-- Where a node lies, by its number. -/
def locL (Ls : List Lay) (j : Nat) : Nat := ((Ls[j]?).map Lay.b).getD 0
def feet (t : Nat) (Ls : List Lay) : List Nat := t :: Ls.flatMap Lay.foot
structure TrAt (W : World) (t : Nat) (σ : Tr) (Ls : List Lay) : Prop where
  tree : W.heap[t]? = some (.cells #[.int .i64 σ.G, .int .i64 σ.I, .int .i64 σ.D, ptrV (locL Ls 0), .int .i64 σ.inodes, .int .i64 σ.blocks] 55 (0, 0))
  len : Ls.length = σ.nodes.length
  node : ∀ (i : Nat) (L : Lay) (d : Nd), Ls[i]? = some L → σ.nodes[i]? = some d → NdAt W (locL Ls) L d
  apart : (feet t Ls).Nodup
  refs : ∀ d ∈ σ.nodes, ∀ q, some q ∈ d.slots → q.1 < σ.nodes.length
  root : ∃ l z s, σ.nodes[0]? = some (.dir l z s)
/-! slots in memory -/
theorem slotC_length (loc : Nat → Nat) (o : Slt) : (slotC loc o).length = 2 := by cases o <;> rfl
theorem slotCs_length (loc : Nat → Nat) (s : List Slt) : (slotCs loc s).length = s.length * 2 := by
  induction s with
  | nil => rfl
  | cons a s ih => simp only [slotCs, List.flatMap_cons, List.length_append, slotC_length, List.length_cons] at ih ⊢; omega
theorem slotCs_get (loc : Nat → Nat) (s : List Slt) (k j : Nat) (hj : j < 2) (hk : k < s.length) : (slotCs loc s)[k * 2 + j]? = (slotC loc (s.getD k none))[j]? := by
  induction s generalizing k with
  | nil => simp at hk
  | cons a s ih =>
    have e : slotCs loc (a :: s) = slotC loc a ++ slotCs loc s := rfl
    rw [e]
    have ha := slotC_length loc a
    cases k with
    | zero => rw [List.getElem?_append_left (by omega)]; simp
    | succ k =>
      rw [List.getElem?_append_right (by omega), ha, show (k + 1) * 2 + j - 2 = k * 2 + j by omega, ih k (by simpa using hk)]
      simp
theorem slotCs_one (loc : Nat → Nat) (s : List Slt) : ∀ u ∈ slotCs loc s, u.oneCell' = true := by
  intro u hu
  obtain ⟨o, _, h⟩ := List.mem_flatMap.1 hu
  cases o <;> simp [slotC] at h <;> rcases h with rfl | rfl <;> rfl
theorem slotCs_set (loc : Nat → Nat) (s : List Slt) (k : Nat) (o : Slt) (hk : k < s.length) : slotCs loc (s.set k o) = ((slotCs loc s).set (k * 2) ((slotC loc o).getD 0 undef)).set (k * 2 + 1) ((slotC loc o).getD 1 undef) := by
  have ho := slotC_length loc o
  induction s generalizing k with
  | nil => simp at hk
  | cons a s ih =>
    have e : ∀ (x : Slt) (u : List Slt), slotCs loc (x :: u) = slotC loc x ++ slotCs loc u := fun _ _ => rfl
    have ha := slotC_length loc a
    cases k with
    | zero =>
      rw [List.set_cons_zero, e, e]
      match hsa : slotC loc a, ha with
      | [x, y], _ =>
        match hso : slotC loc o, ho with
        | [x', y'], _ => simp
    | succ k =>
      rw [List.set_cons_succ, e, e, ih k (by simpa using hk)]
      match hsa : slotC loc a, ha with
      | [x, y], _ => simp [Nat.add_mul, List.set_cons_succ, show k * 2 + 2 + 1 = (k * 2 + 1) + 2 by omega]
theorem DrAt.cells {W : World} {loc : Nat → Nat} {b m r c : Nat} {l z : Int} {s : List Slt} (h : DrAt W loc b m r c l z s) : ∃ cur, W.heap[r]? = some (.cells cur 95 (0, 0)) ∧ cur.size = c * 2 ∧ s.length ≤ c ∧ c ≤ maxLen ∧ ∀ k j, j < 2 → k < s.length → cur[k * 2 + j]? = (slotC loc (s.getD k none))[j]? := by
  obtain ⟨h1, h2⟩ := h.row
  rcases h2 with ⟨h2, _⟩ | ⟨g, cap, cur, hv, hg, hh, hnc, hm, hsz, ht⟩
  · cases h2
  · cases hv
    refine ⟨cur, hh, hsz, hnc, hm, fun k j hj hk => ?_⟩
    rw [← slotCs_get loc s k j hj hk, ← ht, List.getElem?_take, if_pos (by omega), Array.getElem?_toList]
end Go.Proofs.YtehaoeclnmelhabGreat
