/-
  Nodes and trees as they lie in memory.
-/
import Derived.Test.YtehaoeclnmelhacGreatTrSpec
import Derived.Test.YtehaoeclnmelhacGreatTrMap
import Derived.Test.YtehaoeclnmelhacGreatLayPt
import Derived.Test.YtehaoeclnmelhacGreatLayBm
import Derived.Test.YtehaoeclnmelhacGreatTell1
import Derived.BigRegion
namespace Go.Proofs.YtehaoeclnmelhacGreat
open Go Go.Proofs Go.RowKit Go.Shelf
open Go.Maps (Keyed)

/-- Where a node's parts lie: its block, its map, the rows of its blocks; of a directory the row of its slots, and how many there is room for. -/
inductive Lay where
  | file (b m : Nat) (r : List Nat)
  | dir (b m s c : Nat)
def Lay.b : Lay → Nat
  | .file b _ _ => b
  | .dir b _ _ _ => b
def Lay.foot : Lay → List Nat
  | .file b m r => b :: m :: r
  | .dir b m s _ => [b, m, s]
theorem Lay.b_foot (L : Lay) : L.b ∈ L.foot := by cases L <;> simp [Lay.b, Lay.foot]
def ptrV (b : Nat) : Value := .pointer (some ⟨b, 0, none⟩)
/-- A node that may be none. -/
def optV (loc : Nat → Nat) : Option Nat → Value
  | none => .pointer none
  | some j => ptrV (loc j)
def slotC (loc : Nat → Nat) : Slt → List Value
  | none => [strV [], .pointer none]
  | some q => [strV q.2, ptrV (loc q.1)]
def slotCs (loc : Nat → Nat) (s : List Slt) : List Value := s.flatMap (slotC loc)
def plF (s : List Slt) : Lit → Option Value
  | .string p => if nameAt s p < s.length then some (.int .i64 (nameAt s p : Nat)) else none
  | _ => none
def usedN (s : List Slt) : Nat := (s.filter (fun o => o.isSome)).length
def flF (b : List (Int × List Int)) (r : List Nat) : Lit → Option Value
  | .int .i64 x => ((b.zip r).find? (fun q => decide (q.1.1 = x))).map (fun q => .slice (some ⟨q.2, 0, none⟩) 1024 1024)
  | _ => none
/-- No name stands twice; none is too long. -/
def namesOk (s : List Slt) : Prop := (∀ i a p, s[i]? = some (some (a, p)) → nameAt s p = i) ∧ ∀ a p, some (a, p) ∈ s → p.length ≤ 1000
structure DrAt (W : World) (loc : Nat → Nat) (b m r c : Nat) (l z : Int) (s : List Slt) : Prop where
  node : W.heap[b]? = some (.cells #[.int .i64 2, .int .i64 l, .int .i64 z, .map none, .slice (some ⟨r, 0, none⟩) s.length c, .map (some m)] 62 (0, 0))
  row : W.ownsRow 0 91 2 (.slice (some ⟨r, 0, none⟩) s.length c) s.length (slotCs loc s)
  places : MAt W 9 m (usedN s) (plF s)
  names : namesOk s
structure FlAt (W : World) (b m : Nat) (r : List Nat) (l z : Int) (p : List (Int × List Int)) : Prop where
  node : W.heap[b]? = some (.cells #[.int .i64 1, .int .i64 l, .int .i64 z, .map (some m), .slice none 0 0, .map none] 62 (0, 0))
  blocks : MAt W 3 m p.length (flF p r)
  len : r.length = p.length
  rows : ∀ (i : Nat) (x : Int × List Int) (q : Nat), p[i]? = some x → r[i]? = some q → W.heap[q]? = some (.cells (By x.2).toArray 5 (0, 0)) ∧ x.2.length = 1024
def NdAt (W : World) (loc : Nat → Nat) : Lay → Nd → Prop
  | .file b m r, .file l z p => FlAt W b m r l z p
  | .dir b m r c, .dir l z s => DrAt W loc b m r c l z s
  | _, _ => False
theorem DrAt.kept {W W' : World} {loc : Nat → Nat} {b m r c : Nat} {l z : Int} {s : List Slt} (h : DrAt W loc b m r c l z s) (hk : ∀ k ∈ [b, m, r], W'.heap[k]? = W.heap[k]?) : DrAt W' loc b m r c l z s :=
  ⟨(hk b (by simp)).trans h.node, owns_at h.row (fun k e => by cases e; exact hk r (by simp)), h.places.kept (hk m (by simp)), h.names⟩
theorem FlAt.kept {W W' : World} {b m : Nat} {r : List Nat} {l z : Int} {p : List (Int × List Int)} (h : FlAt W b m r l z p) (hk : ∀ k ∈ b :: m :: r, W'.heap[k]? = W.heap[k]?) : FlAt W' b m r l z p :=
  ⟨(hk b (by simp)).trans h.node, h.blocks.kept (hk m (by simp)), h.len, fun i x q hx hq => ⟨(hk q (by have := List.mem_of_getElem? hq; simp [this])).trans (h.rows i x q hx hq).1, (h.rows i x q hx hq).2⟩⟩
theorem NdAt.kept {W W' : World} {loc : Nat → Nat} {L : Lay} {d : Nd} (h : NdAt W loc L d) (hk : ∀ k ∈ L.foot, W'.heap[k]? = W.heap[k]?) : NdAt W' loc L d := by
  cases L <;> cases d <;> simp only [NdAt] at h ⊢
  · exact FlAt.kept h hk
  · exact DrAt.kept h hk
theorem NdAt.head {W : World} {loc : Nat → Nat} {L : Lay} {d : Nd} (h : NdAt W loc L d) : ∃ x y u, W.heap[L.b]? = some (.cells #[.int .i64 d.kind, .int .i64 d.links, .int .i64 d.size, x, y, u] 62 (0, 0)) := by
  cases L <;> cases d <;> simp only [NdAt] at h
  · exact ⟨_, _, _, h.node⟩
  · exact ⟨_, _, _, h.node⟩
theorem NdAt.kind_dir {W : World} {loc : Nat → Nat} {L : Lay} {l z : Int} {s : List Slt} (h : NdAt W loc L (.dir l z s)) : ∃ b m r c, L = .dir b m r c ∧ DrAt W loc b m r c l z s := by
  cases L with
  | file => exact h.elim
  | dir b m r c => exact ⟨b, m, r, c, rfl, h⟩
theorem NdAt.kind_file {W : World} {loc : Nat → Nat} {L : Lay} {l z : Int} {p : List (Int × List Int)} (h : NdAt W loc L (.file l z p)) : ∃ b m r, L = .file b m r ∧ FlAt W b m r l z p := by
  cases L with
  | file b m r => exact ⟨b, m, r, rfl, h⟩
  | dir => exact h.elim
/-- Where a node lies, by its number. -/
def locL (Ls : List Lay) (j : Nat) : Nat := ((Ls[j]?).map Lay.b).getD 0
def feet (t : Nat) (Ls : List Lay) : List Nat := t :: Ls.flatMap Lay.foot
structure TrAt (W : World) (t : Nat) (σ : Tr) (Ls : List Lay) : Prop where
  tree : W.heap[t]? = some (.cells #[.int .i64 σ.G, .int .i64 σ.I, .int .i64 σ.D, ptrV (locL Ls 0), .int .i64 σ.inodes, .int .i64 σ.blocks] 52 (0, 0))
  len : Ls.length = σ.nodes.length
  node : ∀ (i : Nat) (L : Lay) (d : Nd), Ls[i]? = some L → σ.nodes[i]? = some d → NdAt W (locL Ls) L d
  apart : (feet t Ls).Nodup
  refs : ∀ d ∈ σ.nodes, ∀ q, some q ∈ d.slots → q.1 < σ.nodes.length
  root : ∃ l z s, σ.nodes[0]? = some (.dir l z s)
/-! slots in memory -/
theorem slotC_length (loc : Nat → Nat) (o : Slt) : (slotC loc o).length = 2 := by cases o <;> rfl
theorem slotCs_length (loc : Nat → Nat) (s : List Slt) : (slotCs loc s).length = s.length * 2 := by
  induction s with
  | nil => rfl
  | cons a s ih => simp only [slotCs, List.flatMap_cons, List.length_append, slotC_length, List.length_cons] at ih ⊢; omega
theorem slotCs_get (loc : Nat → Nat) (s : List Slt) (k j : Nat) (hj : j < 2) (hk : k < s.length) : (slotCs loc s)[k * 2 + j]? = (slotC loc (s.getD k none))[j]? := by
  induction s generalizing k with
  | nil => simp at hk
  | cons a s ih =>
    have e : slotCs loc (a :: s) = slotC loc a ++ slotCs loc s := rfl
    rw [e]
    have ha := slotC_length loc a
    cases k with
    | zero => rw [List.getElem?_append_left (by omega)]; simp
    | succ k =>
      rw [List.getElem?_append_right (by omega), ha, show (k + 1) * 2 + j - 2 = k * 2 + j by omega, ih k (by simpa using hk)]
      simp
theorem slotCs_one (loc : Nat → Nat) (s : List Slt) : ∀ u ∈ slotCs loc s, u.oneCell' = true := by
  intro u hu
  obtain ⟨o, _, h⟩ := List.mem_flatMap.1 hu
  cases o <;> simp [slotC] at h <;> rcases h with rfl | rfl <;> rfl
theorem slotCs_set (loc : Nat → Nat) (s : List Slt) (k : Nat) (o : Slt) (hk : k < s.length) : slotCs loc (s.set k o) = ((slotCs loc s).set (k * 2) ((slotC loc o).getD 0 undef)).set (k * 2 + 1) ((slotC loc o).getD 1 undef) := by
  have ho := slotC_length loc o
  induction s generalizing k with
  | nil => simp at hk
  | cons a s ih =>
    have e : ∀ (x : Slt) (u : List Slt), slotCs loc (x :: u) = slotC loc x ++ slotCs loc u := fun _ _ => rfl
    have ha := slotC_length loc a
    cases k with
    | zero =>
      rw [List.set_cons_zero, e, e]
      match hsa : slotC loc a, ha with
      | [x, y], _ =>
        match hso : slotC loc o, ho with
        | [x', y'], _ => simp
    | succ k =>
      rw [List.set_cons_succ, e, e, ih k (by simpa using hk)]
      match hsa : slotC loc a, ha with
      | [x, y], _ => simp [Nat.add_mul, List.set_cons_succ, show k * 2 + 2 + 1 = (k * 2 + 1) + 2 by omega]
theorem DrAt.cells {W : World} {loc : Nat → Nat} {b m r c : Nat} {l z : Int} {s : List Slt} (h : DrAt W loc b m r c l z s) : ∃ cur, W.heap[r]? = some (.cells cur 91 (0, 0)) ∧ cur.size = c * 2 ∧ s.length ≤ c ∧ c ≤ maxLen ∧ ∀ k j, j < 2 → k < s.length → cur[k * 2 + j]? = (slotC loc (s.getD k none))[j]? := by
  obtain ⟨h1, h2⟩ := h.row
  rcases h2 with ⟨h2, _⟩ | ⟨g, cap, cur, hv, hg, hh, hnc, hm, hsz, ht⟩
  · cases h2
  · cases hv
    refine ⟨cur, hh, hsz, hnc, hm, fun k j hj hk => ?_⟩
    rw [← slotCs_get loc s k j hj hk, ← ht, List.getElem?_take, if_pos (by omega), Array.getElem?_toList]
end Go.Proofs.YtehaoeclnmelhacGreat
namespace Go.Proofs.YtehaoeclnmelhacGreat
open Go Go.Proofs Go.RowKit Go.Shelf

theorem zero_ptr (w : World) : (zeroValue 49).run Tryz.prog w = .ok (.pointer none) w := by kernel_rfl
theorem zero_int (w : World) : (zeroValue 3).run Tryz.prog w = .ok (.int .i64 0) w := by kernel_rfl
theorem key_str {p : List UInt8} (h : p.length ≤ 1000) : keyOf Tryz.prog 9 (strV p) = some (.string p) := by
  have := WideMaps.keyOf_string_mk (P := Tryz.prog) Tryz.underlying9 (s := mkS p) (by rw [mkS_size]; unfold maxLen; omega)
  rwa [show (mkS p).data.toList = p from of_mk p] at this
theorem name_at {s : List Slt} {p : List UInt8} (h : nameAt s p < s.length) : ∃ j, s.getD (nameAt s p) none = some (j, p) ∧ lookS s p = some j := by
  have e : s.getD (nameAt s p) none = s[nameAt s p] := by simp [List.getD, List.getElem?_eq_getElem h]
  have hb := List.findIdx_getElem (p := hasB p) (w := h)
  change hasB p s[nameAt s p] = true at hb
  unfold lookS
  rw [e]
  cases hs : s[nameAt s p] with
  | none => rw [hs] at hb; cases hb
  | some q =>
    rw [hs] at hb
    simp [hasB] at hb
    exact ⟨q.1, by rw [← hb], rfl⟩
theorem name_none {s : List Slt} {p : List UInt8} (h : ¬ nameAt s p < s.length) : lookS s p = none := by
  unfold lookS
  rw [show s.getD (nameAt s p) none = none by simp [List.getD, List.getElem?_eq_none (Nat.not_lt.1 h)]]
  rfl
theorem look_lt (s : List Slt) (p : List UInt8) : (lookS s p).isSome = decide (nameAt s p < s.length) := by
  by_cases h : nameAt s p < s.length
  · obtain ⟨j, _, e⟩ := name_at h
    rw [e]; simp [h]
  · rw [name_none h]; simp [h]
set_option maxRecDepth 100000 in
set_option maxHeartbeats 2000000 in
theorem look_any (w : World) (loc : Nat → Nat) (b m r c : Nat) (l z : Int) (s : List Slt) (h : DrAt w loc b m r c l z s) (p : List UInt8) (hp : p.length ≤ 1000) :
    Calls Tryz.prog 58 #[ptrV b, strV p] w fun e w' => e = .returned (.tuple #[optV loc (lookS s p), .bool (lookS s p).isSome]) ∧ w' = w := by
  obtain ⟨cur, hcur, hsz, hsc, hcm, hat⟩ := h.cells
  have e4 := blk_cell h.node 4
  have e5 := blk_cell h.node 5
  simp at e4 e5
  have hlk := h.places.look2 keyed9 Tryz.underlying59 (zero_int w) (key_str hp)
  have hl := look_lt s p
  by_cases hlt : nameAt s p < s.length
  · obtain ⟨j, hj, hlj⟩ := name_at hlt
    have hc1 := hat (nameAt s p) 1 (by omega) hlt
    rw [hj] at hc1
    have hcell : w.cell? ⟨r, nameAt s p * 2 + 1, none⟩ = some (ptrV (loc j)) := by rw [blk_cell hcur, hc1]; rfl
    rw [hlj]
    simp only [plF, if_pos hlt, Option.getD_some, Option.isSome_some] at hlk
    have hb : (nameAt s p : Int) < (s.length : Int) := by omega
    generalize nameAt s p = k at *
    clear h hat hcur hc1 hj hlj hl hlt
    unfold ptrV strV optV at *
    go_enter Tryz.func58, Tryz.ntmps58
    go_wp2
    refine bodyPost_ret (results_tmp2 rfl _ _ _) rfl ?_
    exact ⟨rfl, rfl⟩
  · rw [name_none hlt]
    simp only [plF, if_neg hlt, Option.getD_none, Option.isSome_none] at hlk
    clear h hat hcur hl hlt
    unfold ptrV strV optV at *
    go_enter Tryz.func58, Tryz.ntmps58
    go_wp2
    refine bodyPost_ret (results_tmp2 rfl _ _ _) rfl ?_
    exact ⟨rfl, rfl⟩
/-- The name and the node of a slot, as cells. -/
def slN (o : Slt) : List UInt8 := (o.map (·.2)).getD []
def slP (loc : Nat → Nat) (o : Slt) : Value := optV loc (o.map (·.1))
theorem slotC_eq (loc : Nat → Nat) (o : Slt) : slotC loc o = [strV (slN o), slP loc o] := by cases o <;> rfl
theorem DrAt.slot {W : World} {loc : Nat → Nat} {b m r c : Nat} {l z : Int} {s : List Slt} (h : DrAt W loc b m r c l z s) (k : Nat) (hk : k < s.length) :
    W.cell? ⟨r, k * 2, none⟩ = some (strV (slN (s.getD k none))) ∧ W.cell? ⟨r, k * 2 + 1, none⟩ = some (slP loc (s.getD k none)) ∧ W.frozen? ⟨r, k * 2, none⟩ = false ∧ W.frozen? ⟨r, k * 2 + 1, none⟩ = false := by
  obtain ⟨cur, hcur, hsz, hsc, hcm, hat⟩ := h.cells
  have h0 := hat k 0 (by omega) hk
  have h1 := hat k 1 (by omega) hk
  rw [slotC_eq] at h0 h1
  exact ⟨by rw [blk_cell hcur]; exact h0, by rw [blk_cell hcur]; exact h1, blk_free hcur _, blk_free hcur _⟩
theorem free_step {s : List Slt} {k : Nat} (hk : k < s.length) (h : ∀ j, j < k → (s.getD j none).isNone = false) :
    ((s.getD k none).isNone = true → freeAt s = k) ∧ ((s.getD k none).isNone = false → ∀ j, j < k + 1 → (s.getD j none).isNone = false) := by
  refine ⟨fun hn => ?_, fun hn j hj => ?_⟩
  · have g : ∀ j (hj : j < s.length), s.getD j none = s[j] := fun j hj => by simp [List.getD, List.getElem?_eq_getElem hj]
    rcases Nat.lt_trichotomy (freeAt s) k with h1 | h1 | h1
    · have h2 := List.findIdx_getElem (p := fun o : Slt => o.isNone) (xs := s) (w := by change freeAt s < s.length; omega)
      have h3 := h _ h1
      rw [g _ (by omega)] at h3
      have h4 : true = false := h2.symm.trans h3
      cases h4
    · exact h1
    · have h2 := List.not_of_lt_findIdx (p := fun o : Slt => o.isNone) (xs := s) h1
      rw [g k hk] at hn
      have h3 : true = false := hn.symm.trans h2
      cases h3
  · rcases Nat.lt_or_ge j k with h1 | h1
    · exact h j h1
    · rw [show j = k by omega]; exact hn
theorem free_none {s : List Slt} (h : ∀ j, j < s.length → (s.getD j none).isNone = false) : freeAt s = s.length := by
  rcases Nat.lt_or_ge (freeAt s) s.length with h1 | h1
  · have h2 := List.findIdx_getElem (p := fun o : Slt => o.isNone) (xs := s) (w := h1)
    have h3 := h _ h1
    rw [show s.getD (freeAt s) none = s[freeAt s] by simp [List.getD, List.getElem?_eq_getElem h1]] at h3
    have h4 : true = false := h2.symm.trans h3
    cases h4
  · have := List.findIdx_le_length (p := fun o : Slt => o.isNone) (xs := s)
    change freeAt s ≤ s.length at this
    omega
theorem DrAt.below {W W' : World} {loc : Nat → Nat} {b m r c : Nat} {l z : Int} {s : List Slt} (h : DrAt W loc b m r c l z s) (hB : Below W.heap.size W W') : DrAt W' loc b m r c l z s :=
  h.kept (fun k hk => hB.block k (by
    simp only [List.mem_cons, List.not_mem_nil, or_false] at hk
    rcases hk with rfl | rfl | rfl
    · exact lt_of_block h.node
    · exact h.places.lt
    · obtain ⟨cur, hcur, _⟩ := h.cells
      exact lt_of_block hcur))
set_option maxRecDepth 100000 in
set_option maxHeartbeats 2000000 in
theorem free_any (w : World) (loc : Nat → Nat) (b m r c : Nat) (l z : Int) (s : List Slt) (h : DrAt w loc b m r c l z s) (hn : s.length ≤ 16777216) :
    Calls Tryz.prog 57 #[ptrV b] w fun e w' => e = .returned (.int .i64 (freeAt s : Nat)) ∧ Below w.heap.size w w' := by
  have HH := Hid.mk h
  have e4 := blk_cell h.node 4
  simp at e4
  clear h
  unfold ptrV
  obtain ⟨n, hsn⟩ : ∃ n, s.length = n := ⟨_, rfl⟩
  rw [hsn] at e4 hn
  have HN := Hid.mk hsn
  have HW := Hid.mk hn
  clear hsn hn
  go_enter Tryz.func57, Tryz.ntmps57
  go_wp2
  go_loopw [10] (fun i wr => ∃ k : Nat, k ≤ n ∧ i = .int .i64 k ∧ (∀ j, j < k → (s.getD j none).isNone = false) ∧ Below w.heap.size w wr) (fun i _ => n - (intOf i).toNat)
  case atStart => exact ⟨0, by omega, rfl, fun j hj => by omega, Below.refl _ _⟩
  case round =>
    obtain ⟨k, hk, rfl, hf, hbl⟩ := hrel
    have HF := Hid.mk hf
    have HB := Hid.mk hbl
    have hd := HH.out.below hbl
    have e4 := blk_cell hd.node 4
    simp at e4
    rw [HN.out] at e4
    clear hf hbl
    by_cases hlt : k < n
    · obtain ⟨c0, c1, -, -⟩ := hd.slot k (by rw [HN.out]; exact hlt)
      have hi : (k : Int) < n := by omega
      have hw1 : IntKind.i64.wrap ((k : Int) + 1) = (k : Int) + 1 := by rw [IntKind.wrap_i64]; have := HW.out; omega
      have HS := free_step (s := s) (k := k) (by rw [HN.out]; exact hlt) HF.out
      cases ho : s.getD k none with
      | none =>
        rw [ho] at c0 c1 HS
        unfold slN strV at c0
        unfold slP at c1
        simp only [Option.map_none, optV, Option.getD_none] at c0 c1
        clear hd
        have HSS := Hid.mk HS
        clear HS
        go_wp2
        go_ret
        refine ⟨?_, ?_⟩
        · rw [HSS.out.1 rfl]; rfl
        exact (by simpa using HB.out.trans (((Below.refl _ wr).alloc (Nat.le_refl _) _).mono (by simpa using HB.out.size)))
      | some q =>
        rw [ho] at c0 c1 HS
        unfold slN strV at c0
        unfold slP at c1
        simp only [Option.map_some, optV, Option.getD_some, ptrV] at c0 c1
        clear hd
        have HSS := Hid.mk HS
        clear HS
        go_wp2
        refine ⟨⟨k + 1, by omega, by simp, HSS.out.2 rfl, HB.out.trans (((Below.refl _ wr).alloc (Nat.le_refl _) _).mono HB.out.size)⟩, ?_⟩
        simp [intOf]
        omega
    · obtain rfl : k = n := by omega
      have hi : ¬ (k : Int) < (k : Nat) := by omega
      clear hd
      go_wp2
      go_ret
      refine ⟨?_, HB.out⟩
      have e := free_none (s := s) (by rw [HN.out]; exact HF.out)
      rw [e, HN.out]
      rfl
end Go.Proofs.YtehaoeclnmelhacGreat
namespace Go.Proofs.YtehaoeclnmelhacGreat
open Go Go.Proofs Go.RowKit Go.Shelf

theorem set_some {s : List Slt} {k i : Nat} {o x : Slt} (h : (s.set k o)[i]? = some x) : (i = k ∧ x = o) ∨ (i ≠ k ∧ s[i]? = some x) := by
  rw [List.getElem?_set] at h
  split at h
  · rename_i e
    split at h
    · cases h; exact .inl ⟨e.symm, rfl⟩
    · cases h
  · rename_i e
    exact .inr ⟨fun e' => e e'.symm, h⟩
theorem set_other {s : List Slt} {k i : Nat} {o : Slt} (h : i ≠ k) : (s.set k o)[i]? = s[i]? := by rw [List.getElem?_set, if_neg (fun e => h e.symm)]
theorem name_lt {s : List Slt} {i a : Nat} {p : List UInt8} (h : s[i]? = some (some (a, p))) : nameAt s p ≤ i := by
  obtain ⟨hi, e⟩ := List.getElem?_eq_some_iff.1 h
  rcases Nat.lt_or_ge i (nameAt s p) with h1 | h1
  · have h2 := List.not_of_lt_findIdx (p := hasB p) (xs := s) h1
    rw [e] at h2
    simp [hasB] at h2
  · exact h1
theorem name_get {s : List Slt} {p : List UInt8} (h : nameAt s p < s.length) : ∃ a, s[nameAt s p]? = some (some (a, p)) := by
  obtain ⟨j, e, _⟩ := name_at h
  rw [List.getD, List.getElem?_eq_getElem h] at e
  refine ⟨j, ?_⟩
  rw [List.getElem?_eq_getElem h]
  exact congrArg some e
/-- Where a name stands, or that it stands nowhere. -/
theorem pf_char (s : List Slt) (p : List UInt8) : (∃ a, nameAt s p < s.length ∧ s[nameAt s p]? = some (some (a, p)) ∧ plF s (.string p) = some (.int .i64 (nameAt s p : Nat)) ∧ lookS s p = some a) ∨ ((∀ (i a : Nat), s[i]? ≠ some (some (a, p))) ∧ plF s (.string p) = none ∧ lookS s p = none) := by
  by_cases h : nameAt s p < s.length
  · obtain ⟨a, e⟩ := name_get h
    obtain ⟨j, e1, e2⟩ := name_at h
    refine .inl ⟨a, h, e, by simp [plF, h], ?_⟩
    rw [List.getD, e] at e1
    simp at e1
    rw [e2, e1]
  · refine .inr ⟨fun i a e => ?_, by simp [plF, h], name_none h⟩
    have := name_lt e
    have := (List.getElem?_eq_some_iff.1 e).1
    omega
theorem names_of {s : List Slt} (h : ∀ (i j a b : Nat) (p : List UInt8), s[i]? = some (some (a, p)) → s[j]? = some (some (b, p)) → i = j) (hl : ∀ a p, some (a, p) ∈ s → p.length ≤ 1000) : namesOk s :=
  ⟨fun i a p e => by
    rcases pf_char s p with ⟨b, _, e2, _⟩ | ⟨h2, _⟩
    · exact h _ _ _ _ _ e2 e
    · exact absurd e (h2 i a), hl⟩
theorem namesOk.inj {s : List Slt} (h : namesOk s) {i j a b : Nat} {p : List UInt8} (h1 : s[i]? = some (some (a, p))) (h2 : s[j]? = some (some (b, p))) : i = j := (h.1 i a p h1).symm.trans (h.1 j b p h2)
theorem pf_at {s : List Slt} (h : namesOk s) {i a : Nat} {p : List UInt8} (e : s[i]? = some (some (a, p))) : plF s (.string p) = some (.int .i64 (i : Nat)) := by
  have h1 := h.1 i a p e
  have h2 := (List.getElem?_eq_some_iff.1 e).1
  simp [plF, h1, h2]
theorem pf_no {s : List Slt} {p : List UInt8} (h : ∀ (i a : Nat), s[i]? ≠ some (some (a, p))) : plF s (.string p) = none := by
  rcases pf_char s p with ⟨a, _, e, _⟩ | ⟨_, e, _⟩
  · exact absurd e (h _ _)
  · exact e
/-- A slot that is freed. -/
theorem names_del {s : List Slt} (h : namesOk s) (k : Nat) : namesOk (s.set k none) := by
  refine names_of (fun i j a b p h1 h2 => ?_) (fun a p hm => ?_)
  · rcases set_some h1 with ⟨_, e⟩ | ⟨_, h1⟩
    · cases e
    rcases set_some h2 with ⟨_, e⟩ | ⟨_, h2⟩
    · cases e
    exact h.inj h1 h2
  · rcases List.mem_or_eq_of_mem_set hm with h1 | h1
    · exact h.2 a p h1
    · cases h1
theorem pf_del {s : List Slt} (h : namesOk s) {p : List UInt8} (hp : nameAt s p < s.length) (q : List UInt8) : updF (plF s) (.string p) none (.string q) = plF (s.set (nameAt s p) none) (.string q) := by
  obtain ⟨a, ea⟩ := name_get hp
  by_cases hq : q = p
  · subst hq
    rw [upd_same, pf_no]
    intro i b e
    rcases set_some e with ⟨_, e⟩ | ⟨hne, e⟩
    · cases e
    · exact hne (h.inj e ea)
  · rw [upd_other _ _ (by simpa using hq)]
    rcases pf_char s q with ⟨b, h1, h2, h3, _⟩ | ⟨h2, h3, _⟩
    · rw [h3, pf_at (names_del h _) (i := nameAt s q) (a := b) (p := q)]
      rw [set_other, h2]
      intro e
      rw [e, ea] at h2
      simp at h2
      exact hq h2.2.symm
    · rw [h3, pf_no]
      intro i b e
      rcases set_some e with ⟨_, e⟩ | ⟨hne, e⟩
      · cases e
      · exact h2 i b e
theorem used_set (s : List Slt) (k : Nat) (o : Slt) (hk : k < s.length) : usedN (s.set k o) + (if (s.getD k none).isSome = true then 1 else 0) = usedN s + (if o.isSome = true then 1 else 0) := by
  induction s generalizing k with
  | nil => simp at hk
  | cons a s ih =>
    cases k with
    | zero =>
      simp only [List.set_cons_zero, usedN, List.filter_cons, List.getD_cons_zero]
      split <;> split <;> simp_all
    | succ k =>
      have := ih k (by simpa using hk)
      simp only [List.set_cons_succ, usedN, List.filter_cons, List.getD_cons_succ] at this ⊢
      split <;> simp_all <;> omega
/-- A name that is given another node. -/
theorem names_put {s : List Slt} (h : namesOk s) {p : List UInt8} (hp : nameAt s p < s.length) (j : Nat) : namesOk (s.set (nameAt s p) (some (j, p))) := by
  obtain ⟨a, ea⟩ := name_get hp
  refine names_of (fun i i' x y q h1 h2 => ?_) (fun x q hm => ?_)
  · rcases set_some h1 with ⟨e1, e⟩ | ⟨n1, h1⟩
    · cases e
      rcases set_some h2 with ⟨e2, e⟩ | ⟨n2, h2⟩
      · rw [e1, e2]
      · exact absurd (h.inj h2 ea) n2
    · rcases set_some h2 with ⟨e2, e⟩ | ⟨n2, h2⟩
      · cases e
        exact absurd (h.inj h1 ea) n1
      · exact h.inj h1 h2
  · rcases List.mem_or_eq_of_mem_set hm with h1 | h1
    · exact h.2 x q h1
    · cases h1
      exact h.2 a p (List.mem_of_getElem? ea)
theorem pf_put {s : List Slt} (h : namesOk s) {p : List UInt8} (hp : nameAt s p < s.length) (j : Nat) (q : List UInt8) : plF s (.string q) = plF (s.set (nameAt s p) (some (j, p))) (.string q) := by
  obtain ⟨a, ea⟩ := name_get hp
  rcases pf_char s q with ⟨b, h1, h2, h3, _⟩ | ⟨h2, h3, _⟩
  · by_cases hq : nameAt s q = nameAt s p
    · rw [hq, ea] at h2
      simp at h2
      obtain ⟨rfl, rfl⟩ := h2
      rw [pf_at (names_put h hp j) (i := nameAt s p) (a := j) (by simp [hp])]
      exact h3
    · rw [h3, pf_at (names_put h hp j) (i := nameAt s q) (a := b)]
      rw [set_other hq, h2]
  · rw [h3, pf_no]
    intro i b e
    rcases set_some e with ⟨_, e⟩ | ⟨hne, e⟩
    · cases e
      exact h2 _ _ ea
    · exact h2 i b e
/-- A name that was not there takes a free slot. -/
theorem names_add {s : List Slt} (h : namesOk s) {p : List UInt8} (hp : ¬ nameAt s p < s.length) (hl : p.length ≤ 1000) (k j : Nat) : namesOk (s.set k (some (j, p))) := by
  have h0 : ∀ (i a : Nat), s[i]? ≠ some (some (a, p)) := by
    rcases pf_char s p with ⟨b, h1, _⟩ | ⟨h2, _⟩
    · exact absurd h1 hp
    · exact h2
  refine names_of (fun i i' x y q h1 h2 => ?_) (fun x q hm => ?_)
  · rcases set_some h1 with ⟨e1, e⟩ | ⟨n1, h1⟩
    · cases e
      rcases set_some h2 with ⟨e2, e⟩ | ⟨n2, h2⟩
      · rw [e1, e2]
      · exact absurd h2 (h0 _ _)
    · rcases set_some h2 with ⟨e2, e⟩ | ⟨n2, h2⟩
      · cases e
        exact absurd h1 (h0 _ _)
      · exact h.inj h1 h2
  · rcases List.mem_or_eq_of_mem_set hm with h1 | h1
    · exact h.2 x q h1
    · cases h1
      exact hl
theorem pf_add {s : List Slt} (h : namesOk s) {p : List UInt8} (hp : ¬ nameAt s p < s.length) (hl : p.length ≤ 1000) {k : Nat} (hk : k < s.length) (hf : s.getD k none = none) (j : Nat) (q : List UInt8) : updF (plF s) (.string p) (some (.int .i64 (k : Nat))) (.string q) = plF (s.set k (some (j, p))) (.string q) := by
  by_cases hq : q = p
  · subst hq
    rw [upd_same, pf_at (names_add h hp hl k j) (i := k) (a := j) (by simp [hk])]
  · rw [upd_other _ _ (by simpa using hq)]
    rcases pf_char s q with ⟨b, h1, h2, h3, _⟩ | ⟨h2, h3, _⟩
    · rw [h3, pf_at (names_add h hp hl k j) (i := nameAt s q) (a := b)]
      rw [set_other, h2]
      intro e
      rw [List.getD, ← e, h2] at hf
      cases hf
    · rw [h3, pf_no]
      intro i b e
      rcases set_some e with ⟨_, e⟩ | ⟨hne, e⟩
      · cases e
        exact hq rfl
      · exact h2 i b e
theorem get_more (s : List Slt) (n i : Nat) (a : Nat) (p : List UInt8) : (s ++ List.replicate n none)[i]? = some (some (a, p)) ↔ s[i]? = some (some (a, p)) := by
  rcases Nat.lt_or_ge i s.length with h | h
  · rw [List.getElem?_append_left h]
  · rw [List.getElem?_append_right h, List.getElem?_eq_none (l := s) h, List.getElem?_replicate]
    split <;> simp
theorem names_more {s : List Slt} (h : namesOk s) (n : Nat) : namesOk (s ++ List.replicate n none) := by
  refine names_of (fun i i' x y q h1 h2 => h.inj ((get_more _ _ _ _ _).1 h1) ((get_more _ _ _ _ _).1 h2)) (fun x q hm => ?_)
  rcases List.mem_append.1 hm with h1 | h1
  · exact h.2 x q h1
  · have := List.eq_of_mem_replicate h1
    cases this
theorem pf_more {s : List Slt} (h : namesOk s) (n : Nat) (q : List UInt8) : plF (s ++ List.replicate n none) (.string q) = plF s (.string q) := by
  rcases pf_char s q with ⟨b, h1, h2, h3, _⟩ | ⟨h2, h3, _⟩
  · rw [h3, pf_at (names_more h n) ((get_more _ _ _ _ _).2 h2)]
  · rw [h3, pf_no]
    intro i b e
    exact h2 i b ((get_more _ _ _ _ _).1 e)
theorem used_more (s : List Slt) (n : Nat) : usedN (s ++ List.replicate n none) = usedN s := by
  unfold usedN
  rw [List.filter_append]
  have : (List.replicate n (none : Slt)).filter (fun o => o.isSome) = [] := by
    rw [List.filter_eq_nil_iff]
    intro o ho
    rw [List.eq_of_mem_replicate ho]
    simp
  rw [this, List.append_nil]
theorem name_more {s : List Slt} (n : Nat) {p : List UInt8} (hp : ¬ nameAt s p < s.length) : ¬ nameAt (s ++ List.replicate n none) p < (s ++ List.replicate n none).length := by
  intro h
  obtain ⟨a, e⟩ := name_get h
  have e2 := (get_more _ _ _ _ _).1 e
  exact hp (Nat.lt_of_le_of_lt (name_lt e2) (List.getElem?_eq_some_iff.1 e2).1)
/-- What a map keyed by names tells hangs on names alone. -/
theorem MAt.names {W : World} {b n : Nat} {f g : Lit → Option Value} (h : MAt W 9 b n f) (e : ∀ q, f (.string q) = g (.string q)) : MAt W 9 b n g := by
  refine h.say (fun key kl hk => ?_)
  have : ∃ q, kl = .string q := by
    cases key <;> simp [keyOf, mapKey, Tryz.underlying9] at hk
    exact ⟨_, hk.2.symm⟩
  obtain ⟨q, rfl⟩ := this
  exact e q
/-! rows -/
theorem row_set {W : World} {r n c : Nat} {xs : List Value} (h : W.ownsRow 0 91 2 (.slice (some ⟨r, 0, none⟩) n c) n xs) (i : Nat) (u : Value) : (W.setCell ⟨r, i, none⟩ u).ownsRow 0 91 2 (.slice (some ⟨r, 0, none⟩) n c) n (xs.set i u) := by
  obtain ⟨h1, h2⟩ := h
  rcases h2 with ⟨h2, _⟩ | ⟨g, cap, cur, hv, hg, hh, hnc, hm, hsz, ht⟩
  · cases h2
  · cases hv
    refine ⟨by simpa using h1, .inr ⟨r, c, cur.setIfInBounds i u, rfl, hg, blk_set hh, hnc, hm, by simpa using hsz, ?_⟩⟩
    rw [Array.toList_setIfInBounds, List.take_set, ht]
end Go.Proofs.YtehaoeclnmelhacGreat
namespace Go.Proofs.YtehaoeclnmelhacGreat
open Go Go.Proofs Go.RowKit Go.Shelf
open Go.ChangeMaps (setBlock heap_setBlock_same heap_setBlock_other)

theorem MAt.drew {W : World} {k : TypeId} {b n : Nat} {f : Lit → Option Value} (h : MAt W k b n f) : MAt W.drew k b n f := h.kept rfl
theorem DrAt.drew {W : World} {loc : Nat → Nat} {b m r c : Nat} {l z : Int} {s : List Slt} (h : DrAt W loc b m r c l z s) : DrAt W.drew loc b m r c l z s := h.kept (fun _ _ => rfl)
set_option maxRecDepth 100000 in
set_option maxHeartbeats 4000000 in
theorem remove_any (w : World) (loc : Nat → Nat) (b m r c : Nat) (l z : Int) (s : List Slt) (h : DrAt w loc b m r c l z s) (hd : [b, m, r].Nodup) (p : List UInt8) (hp : p.length ≤ 1000) (hlt : nameAt s p < s.length) :
    Calls Tryz.prog 42 #[ptrV b, strV p] w fun e w' => e = .returned (.tuple #[]) ∧ DrAt w' loc b m r c l z (s.set (nameAt s p) none) ∧ Only (fun k => k = m ∨ k = r) w w' := by
  have e4 := blk_cell h.node 4
  have e5 := blk_cell h.node 5
  simp at e4 e5
  obtain ⟨c0, c1, f0, f1⟩ := h.slot (nameAt s p) hlt
  have hlk := h.drew.places.look keyed9 Tryz.underlying59 (zero_int _) (key_str hp)
  simp only [plF, if_pos hlt, Option.getD_some] at hlk
  have hb : (nameAt s p : Int) < (s.length : Int) := by omega
  have HH := Hid.mk h
  have HD := Hid.mk hd
  have HP := Hid.mk hp
  have HLT := Hid.mk hlt
  generalize hk : nameAt s p = k at *
  have HK := Hid.mk hk
  have HN : Hid (nameAt s p < s.length) := Hid.mk (by rw [hk]; exact HLT.out)
  clear h hd hp hlt hk
  unfold ptrV strV at *
  go_enter Tryz.func42, Tryz.ntmps42
  go_wp2
  go_region
  generalize hW1 : World.drew _ = W1
  have hk1 : ∀ q, q ≠ r → W1.heap[q]? = w.heap[q]? := fun q hq => by
    rw [← hW1]
    show (World.setCell _ _ _).heap[q]? = _
    rw [Below.heap_setCell _ _ _ _ hq, Below.heap_setCell _ _ _ _ hq]
  have hsz1 : Only (fun k => k = m ∨ k = r) w W1 := by
    rw [← hW1]
    exact (((Only.refl _ w).setCell (p := ⟨r, k * 2, none⟩) (.inl (.inr rfl)) _).setCell (p := ⟨r, k * 2 + 1, none⟩) (.inl (.inr rfl)) _).drew
  have hrow1 : W1.ownsRow 0 91 2 (.slice (some ⟨r, 0, none⟩) s.length c) s.length (slotCs loc (s.set k none)) := by
    rw [← hW1, slotCs_set _ _ _ _ HLT.out]
    exact row_set (row_set HH.out.row _ _) _ _
  obtain ⟨d1, d2, d3⟩ : b ≠ m ∧ b ≠ r ∧ m ≠ r := by have := HD.out; simp at this; exact ⟨this.1.1, this.1.2, this.2⟩
  have hnode1 := (hk1 b d2).trans HH.out.node
  have e5' := blk_cell hnode1 5
  simp at e5'
  have hm1 := HH.out.places.kept (hk1 m d3)
  obtain ⟨o, hdel, hmd⟩ := hm1.del keyed9 Tryz.underlying59 (key_str HP.out) 0
  have HFIN : Hid (DrAt (setBlock W1 m o) loc b m r c l z (s.set k none) ∧ Only (fun k => k = m ∨ k = r) w (setBlock W1 m o)) := Hid.mk ⟨⟨by rw [heap_set_other d1]; simpa using hnode1, owns_at (by simpa using hrow1) (fun q e => by cases e; exact heap_set_other (fun e => d3 e.symm)), (by
      have hu := used_set s k none HLT.out
      obtain ⟨a, ea⟩ := name_get HN.out
      rw [HK.out] at ea
      have eg : s.getD k none = some (a, p) := by rw [List.getD, ea]; rfl
      rw [eg] at hu
      have hp0 : plF s (.string p) = some (.int .i64 (k : Nat)) := pf_at HH.out.names ea
      rw [hp0] at hmd
      simp at hu hmd
      rw [show usedN (s.set k none) = usedN s - 1 by omega]
      refine hmd.names (fun q => ?_)
      have := pf_del HH.out.names HN.out q
      rw [HK.out] at this
      exact this), names_del HH.out.names _⟩, hsz1.setBlock (.inl (.inl rfl)) _⟩
  unfold strV at hdel
  clear hk1 hsz1 hrow1 hnode1 hm1 hmd hW1 e4 e5 c0 c1 f0 f1 hlk
  go_wp2
  go_end0
  exact ⟨rfl, HFIN.out⟩
set_option maxRecDepth 100000 in
set_option maxHeartbeats 4000000 in
theorem put_any (w : World) (loc : Nat → Nat) (b m r c : Nat) (l z : Int) (s : List Slt) (h : DrAt w loc b m r c l z s) (hd : [b, m, r].Nodup) (p : List UInt8) (hp : p.length ≤ 1000) (hlt : nameAt s p < s.length) (j : Nat) :
    Calls Tryz.prog 59 #[ptrV b, strV p, ptrV (loc j)] w fun e w' => e = .returned (.tuple #[]) ∧ DrAt w' loc b m r c l z (s.set (nameAt s p) (some (j, p))) ∧ Only (fun k => k = r) w w' := by
  have e4 := blk_cell h.node 4
  have e5 := blk_cell h.node 5
  simp at e4 e5
  obtain ⟨c0, c1, f0, f1⟩ := h.slot (nameAt s p) hlt
  have hlk := h.drew.places.look keyed9 Tryz.underlying59 (zero_int _) (key_str hp)
  simp only [plF, if_pos hlt, Option.getD_some] at hlk
  have hb : (nameAt s p : Int) < (s.length : Int) := by omega
  have HH := Hid.mk h
  have HD := Hid.mk hd
  have HLT := Hid.mk hlt
  generalize hk : nameAt s p = k at *
  have HK := Hid.mk hk
  have HN : Hid (nameAt s p < s.length) := Hid.mk (by rw [hk]; exact HLT.out)
  clear h hd hp hlt hk
  unfold ptrV strV at *
  go_enter Tryz.func59, Tryz.ntmps59
  go_wp2
  go_region
  generalize hW1 : World.drew _ = W1
  have hk1 : ∀ q, q ≠ r → W1.heap[q]? = w.heap[q]? := fun q hq => by
    rw [← hW1]
    show (World.setCell _ _ _).heap[q]? = _
    rw [Below.heap_setCell _ _ _ _ hq]
  have hsz1 : Only (fun k => k = r) w W1 := by
    rw [← hW1]
    exact ((Only.refl (fun k => k = r) w).setCell (p := ⟨r, k * 2 + 1, none⟩) (.inl rfl) _).drew
  obtain ⟨a, ea⟩ := name_get HN.out
  rw [HK.out] at ea
  have eg : s.getD k none = some (a, p) := by rw [List.getD, ea]; rfl
  have hrow1 : W1.ownsRow 0 91 2 (.slice (some ⟨r, 0, none⟩) s.length c) s.length (slotCs loc (s.set k (some (j, p)))) := by
    rw [← hW1, slotCs_set _ _ _ _ HLT.out]
    have h0 := slotCs_get loc s k 0 (by omega) HLT.out
    rw [eg] at h0
    have e0 : (slotCs loc s).set (k * 2) (strV p) = slotCs loc s := by
      apply List.ext_getElem?
      intro i
      rw [List.getElem?_set]
      split
      · rename_i e
        subst e
        rw [Nat.add_zero] at h0
        rw [h0, if_pos (by rw [slotCs_length]; have := HLT.out; omega)]
        rfl
      · rfl
    have e1 : ((slotC loc (some (j, p))).getD 0 undef) = strV p := rfl
    rw [e1, e0]
    exact row_set HH.out.row _ _
  obtain ⟨d1, d2, d3⟩ : b ≠ m ∧ b ≠ r ∧ m ≠ r := by have := HD.out; simp at this; exact ⟨this.1.1, this.1.2, this.2⟩
  have HFIN : Hid (DrAt W1 loc b m r c l z (s.set k (some (j, p))) ∧ Only (fun k => k = r) w W1) := Hid.mk ⟨⟨by simpa using (hk1 b d2).trans HH.out.node, by simpa using hrow1, (by
      have hu := used_set s k (some (j, p)) HLT.out
      rw [eg] at hu
      simp at hu
      rw [show usedN (s.set k (some (j, p))) = usedN s by omega]
      refine (HH.out.places.kept (hk1 m d3)).names (fun q => ?_)
      have := pf_put HH.out.names HN.out j q
      rw [HK.out] at this
      exact this), (by have := names_put HH.out.names HN.out j; rw [HK.out] at this; exact this)⟩, hsz1⟩
  clear hk1 hsz1 hrow1 hW1 e4 e5 c0 c1 f0 f1 hlk
  go_wp2
  go_end0
  exact ⟨rfl, HFIN.out⟩
end Go.Proofs.YtehaoeclnmelhacGreat
