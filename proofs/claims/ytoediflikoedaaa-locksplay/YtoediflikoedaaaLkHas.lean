/-
  Things by thread: a map of rows of numbers.
-/
import Derived.Test.YtoediflikoedaaaLkWaited
namespace Go.Proofs.Ytoediflikoedaaa
open Go Go.Proofs Go.RowKit Go.Shelf Go.Maps
open Go.ChangeMaps (setBlock)
attribute [local go_sem] Oper.semAt_some
/-- append(l, x). -/
theorem appendI (W : World) (B : Nat) (v : Value) (L : List Int) (x : Int) (hown : W.ownsRow B 3 1 v L.length (Iy L)) (hB : B ≤ W.heap.size) (hn : L.length ≤ 10000000) :
    ∃ v' W', (Builtin.append_ #[39, 39] 39 #[v, .slice (some ⟨W.heap.size, 0, none⟩) 1 1]).run Try.prog (W.alloc (.cells #[.int .i64 x] 3)) = .ok v' W' ∧ W'.ownsRow B 3 1 v' (L ++ [x]).length (Iy (L ++ [x])) ∧ Only (fun k => v.ownBlock = some k) W W' ∧ (v'.ownBlock = v.ownBlock ∨ v'.ownBlock = some (W.heap.size + 1)) ∧ (∃ g, v'.ownBlock = some g) := by
  obtain ⟨i0, hi, hz0, hz1, hz2⟩ := info3p
  have hnew := blk_new W (.cells #[.int .i64 x] 3)
  obtain ⟨v3, W3, hr, hown3, hg3, _, hw3⟩ := run_append_own_at (P := Try.prog) (W.alloc (.cells #[.int .i64 x] 3)) B 39 39 3 i0 (.int .i64 0) 1 8 Try.underlying39 hi hz0 hz1 hz2 rfl (by decide) v L.length (Iy L) (hown.alloc _) ⟨W.heap.size, 0, none⟩ 1 1 [.int .i64 x] rfl (fun j u hj => by
    match j, hj with
    | 0, hj => cases hj; rw [add_at, blk_cell hnew]; rfl) (fun u hu => by simp at hu; subst hu; rfl) (by unfold maxLen; omega) (by omega) (by simp; omega)
  have e : Iy L ++ [.int .i64 x] = Iy (L ++ [x]) := by simp [Iy]
  rw [e] at hown3
  have hown4 : W3.ownsRow B 3 1 v3 (L ++ [x]).length (Iy (L ++ [x])) := by rw [List.length_append]; exact hown3
  refine ⟨v3, W3, hr, hown4, ((Only.refl _ W).alloc _).grown hg3 (fun k hk => .inl hk), by simpa using hw3, ?_⟩
  rcases hown4.2 with ⟨_, h0⟩ | ⟨g, cap, cur, rfl, _⟩
  · simp at h0
  · exact ⟨g, rfl⟩
structure HsAt (F : Nat → Prop) (W : World) (hb n : Nat) (f : Int → Option (Value × List Int)) : Prop where
  map : MAt W 3 hb n (intF Prod.fst f)
  fhb : F hb
  row : ∀ i x, f i = some x → W.ownsRow 0 3 1 x.1 x.2.length (Iy x.2)
  own : ∀ i x g, f i = some x → x.1.ownBlock = some g → F g ∧ g ≠ hb
  sep : ∀ i j x y g, f i = some x → f j = some y → x.1.ownBlock = some g → y.1.ownBlock = some g → i = j
theorem own_lt {W : World} {B : Nat} {v : Value} {n : Nat} {xs : List Value} (h : W.ownsRow B 3 1 v n xs) {g : Nat} (hg : v.ownBlock = some g) : g < W.heap.size := by
  rcases h.2 with ⟨rfl, _⟩ | ⟨g', cap, cur, rfl, _, hh, _⟩
  · cases hg
  · cases hg; exact lt_of_block hh
section
variable {F F' S : Nat → Prop} {W W' : World} {hb n : Nat} {f : Int → Option (Value × List Int)}
theorem HsAt.only (h : HsAt F W hb n f) (hO : Only S W W') (hS : ∀ k, F k → k < W.heap.size → ¬ S k) : HsAt F W' hb n f :=
  ⟨h.map.kept (hO.block hb h.map.lt (hS _ h.fhb h.map.lt)), h.fhb, fun i x hi => owns_at (h.row i x hi) (fun k hk => hO.block k (own_lt (h.row i x hi) hk) (hS k (h.own i x k hi hk).1 (own_lt (h.row i x hi) hk))), h.own, h.sep⟩
theorem HsAt.mono (h : HsAt F W hb n f) (hF : ∀ k, k < W.heap.size → F k → F' k) : HsAt F' W hb n f :=
  ⟨h.map, hF _ h.map.lt h.fhb, h.row, fun i x g hi hg => ⟨hF g (own_lt (h.row i x hi) hg) (h.own i x g hi hg).1, (h.own i x g hi hg).2⟩, h.sep⟩
theorem zeroS (W : World) : (zeroValue 39).run Try.prog W = .ok (.slice none 0 0) W := by kernel_rfl
/-- The row at i as it is: nil, where there is none. -/
def rowV (f : Int → Option (Value × List Int)) (i : Int) : Value := ((f i).map Prod.fst).getD (.slice none 0 0)
def rowL (f : Int → Option (Value × List Int)) (i : Int) : List Int := ((f i).map Prod.snd).getD []
theorem HsAt.look (h : HsAt F W hb n f) {i : Int} (hw : (Lit.int .i64 i).wf = true) : (Instr.lookup 71 (.map (some hb)) (.int .i64 i) false).run Try.prog W = .ok (rowV f i) W := by
  rw [h.map.look keyed3 Try.underlying71 (zeroS W) (key_int hw), intF_int]
  unfold rowV
  cases f i <;> rfl
theorem HsAt.rowAt (h : HsAt F W hb n f) (i : Int) : W.ownsRow 0 3 1 (rowV f i) (rowL f i).length (Iy (rowL f i)) := by
  unfold rowV rowL
  cases e : f i with
  | none => exact World.ownsRow_nil _ _ _ _
  | some x => exact h.row i x e
theorem HsAt.rowOwn (h : HsAt F W hb n f) {i : Int} {g : Nat} (hg : (rowV f i).ownBlock = some g) : F g ∧ g ≠ hb ∧ ∃ x, f i = some x ∧ x.1.ownBlock = some g := by
  unfold rowV at hg
  cases e : f i with
  | none => rw [e] at hg; cases hg
  | some x =>
    rw [e] at hg
    exact ⟨(h.own i x g e hg).1, (h.own i x g e hg).2, x, rfl, hg⟩
theorem rowL_upd (f : Int → Option (Value × List Int)) (i j : Int) (v : Value) (L : List Int) : rowL (updC f i (some (v, L))) j = if j = i then L else rowL f j := by
  unfold rowL
  by_cases e : j = i
  · subst e
    rw [updC_same, if_pos rfl]
    rfl
  · rw [updC_other _ _ e, if_neg e]
/-- 'm[i] = append(m[i], x)'. -/
theorem HsAt.add (h : HsAt F W hb n f) {i : Int} (hw : (Lit.int .i64 i).wf = true) (x : Int) (hn : n ≤ 1000000) (hl : (rowL f i).length ≤ 1000000) :
    ∃ v' W', (Builtin.append_ #[39, 39] 39 #[rowV f i, .slice (some ⟨W.heap.size, 0, none⟩) 1 1]).run Try.prog (W.alloc (.cells #[.int .i64 x] 3)) = .ok v' W' ∧ W'.heap[hb]? = W.heap[hb]? ∧ Only F W W' ∧ ∃ o, (Instr.mapUpdate 71 (.map (some hb)) (.int .i64 i) v').run Try.prog W' = .ok () (setBlock W' hb o) ∧
      Hid ((∃ n', n' ≤ n + 1 ∧ HsAt (Grown F W) (setBlock W' hb o) hb n' (updC f i (some (v', rowL f i ++ [x])))) ∧ Only F W (setBlock W' hb o)) := by
  obtain ⟨v', W', hr, ho, hO, hv, g', hg'⟩ := appendI W 0 (rowV f i) (rowL f i) x (h.rowAt i) (Nat.zero_le _) (by omega)
  have hbl := h.map.lt
  have hOF : Only F W W' := hO.mono (fun k _ hk => (h.rowOwn hk).1)
  have hhb : W'.heap[hb]? = W.heap[hb]? := hO.block hb hbl (fun e => (h.rowOwn e).2.1 rfl)
  have hm := h.map.kept hhb
  obtain ⟨o, p, hm2⟩ := hm.put keyed3 Try.underlying71 (by unfold maxLen; omega) (key_int hw) (val := v')
  have hs := hO.size
  have hgn : (rowV f i).ownBlock = some g' ∨ g' = W.heap.size + 1 := by
    rcases hv with q | q
    · exact .inl (q ▸ hg')
    · rw [hg'] at q; exact .inr (Option.some.inj q)
  have hgb : g' ≠ hb := by
    rcases hgn with q | q
    · exact (h.rowOwn q).2.1
    · omega
  have hFg : Grown F W g' := by
    rcases hgn with q | q
    · exact .inl (h.rowOwn q).1
    · exact .inr (by omega)
  have kept : ∀ j y, j ≠ i → f j = some y → ∀ k, y.1.ownBlock = some k → (setBlock W' hb o).heap[k]? = W.heap[k]? := fun j y hj hy k hk => by
    rw [heap_set_other (h.own j y k hy hk).2]
    refine hO.block k (own_lt (h.row j y hy) hk) (fun e => ?_)
    obtain ⟨_, _, x', hx', hxo⟩ := h.rowOwn e
    exact hj (h.sep j i y x' k hy hx' hk hxo)
  refine ⟨v', W', hr, hhb, hOF, o, p, Hid.mk ⟨⟨_, ?_, ⟨MAt.say hm2 (fun _ l _ => by rw [intF_upd]; rfl), .inl h.fhb, fun j y hj => ?_, fun j y k hj hk => ?_, fun j j' y y' k hj hj' hk hk' => ?_⟩⟩, hOF.setBlock (.inl h.fhb) o⟩⟩
  · split <;> omega
  · by_cases e : j = i
    · subst e
      rw [updC_same] at hj
      cases hj
      exact owns_at ho (fun k hk => heap_set_other (by rw [hg'] at hk; cases hk; exact hgb))
    · rw [updC_other _ _ e] at hj
      exact owns_at (h.row j y hj) (kept j y e hj)
  · by_cases e : j = i
    · subst e
      rw [updC_same] at hj
      cases hj
      rw [hg'] at hk
      cases hk
      exact ⟨hFg, hgb⟩
    · rw [updC_other _ _ e] at hj
      exact ⟨.inl (h.own j y k hj hk).1, (h.own j y k hj hk).2⟩
  · have new : ∀ j y, j ≠ i → f j = some y → y.1.ownBlock = some g' → False := fun j y hj hy hk => by
      rcases hgn with q | q
      · obtain ⟨_, _, x', hx', hxo⟩ := h.rowOwn q
        exact hj (h.sep j i y x' g' hy hx' hk hxo)
      · have := own_lt (h.row j y hy) hk; omega
    by_cases e : j = i
    · by_cases e' : j' = i
      · rw [e, e']
      · exfalso
        subst e
        rw [updC_same] at hj
        cases hj
        rw [updC_other _ _ e'] at hj'
        rw [hg'] at hk
        cases hk
        exact new j' y' e' hj' hk'
    · by_cases e' : j' = i
      · exfalso
        subst e'
        rw [updC_same] at hj'
        cases hj'
        rw [updC_other _ _ e] at hj
        rw [hg'] at hk'
        cases hk'
        exact new j y e hj hk
      · rw [updC_other _ _ e] at hj
        rw [updC_other _ _ e'] at hj'
        exact h.sep j j' y y' k hj hj' hk hk'
end
end Go.Proofs.Ytoediflikoedaaa
