/-
  Lists: what the model and the cache make of one list of blocks.
-/
import Derived.Test.YtmbhjheoomlggaaCaMod7
namespace Go.Proofs.Ytmbhjheoomlggaa
open Go Go.Proofs Go.RowKit Go.Shelf
theorem shkN_cases (L : List Kb) : ∀ n : Nat, (shkN n L).length + n = L.length ∨ ∀ x ∈ shkN n L, x.idle = false := by
  induction L with
  | nil => intro n; cases n with
    | zero => left; rfl
    | succ n => right; intro x hx; simp [shkN] at hx
  | cons x r ih =>
    intro n
    cases n with
    | zero => left; rw [shkN_zero]; rfl
    | succ n =>
      rw [shkN]
      cases hx : x.idle with
      | true =>
        rw [if_pos rfl]
        rcases ih n with h | h
        · left; rw [List.length_cons]; omega
        · exact .inr h
      | false =>
        rw [if_neg (by simp)]
        rcases ih (n + 1) with h | h
        · left; rw [List.length_cons, List.length_cons]; omega
        · right
          intro y hy
          rcases List.mem_cons.1 hy with rfl | hy
          · exact hx
          · exact h y hy
theorem shk_busy {size : Nat} {ks : List Kb} (h : ∀ x ∈ ks, x.idle = false) : shk size ks = ks := shk_full (fun j hj => by
  rw [List.getD_eq_getElem?_getD, List.getElem?_eq_getElem hj]
  exact h _ (List.getElem_mem hj))
theorem sta_iff {size : Nat} {ks : List Kb} : shk size ks = ks ↔ ks.length ≤ size ∨ ∀ x ∈ ks, x.idle = false := by
  refine ⟨fun h => ?_, fun h => ?_⟩
  · unfold shk at h
    rcases shkN_cases ks (ks.length - size) with h1 | h1
    · rw [h] at h1
      left; omega
    · rw [h] at h1
      exact .inr h1
  · rcases h with h | h
    · unfold shk
      rw [show ks.length - size = 0 by omega, shkN_zero]
    · exact shk_busy h
theorem sta_shk (size : Nat) (L : List Kb) : shk size (shk size L) = shk size L := by
  rw [sta_iff]
  unfold shk
  rcases shkN_cases L (L.length - size) with h | h
  · left; omega
  · exact .inr h
theorem sta_put {size : Nat} {ks : List Kb} (h : shk size ks = ks) (n : Int) (ys : List Int) : shk size (putL ks n ys) = putL ks n ys := by
  unfold putL
  split
  · split
    · rw [sta_iff] at h ⊢
      rcases h with h | h
      · left; simpa [updK] using h
      · right
        intro x hx
        obtain ⟨y, hy, rfl⟩ := List.mem_map.1 hx
        split
        · exact idle_false (.inr rfl)
        · exact h y hy
    · exact h
  · exact h
theorem sta_rel {size : Nat} {ks : List Kb} (h : shk size ks = ks) (n : Int) : shk size (relL size ks n) = relL size ks n := by
  unfold relL
  split
  · split
    · exact sta_shk _ _
    · exact h
  · exact h
theorem sta_flu {size : Nat} {ks : List Kb} (h : shk size ks = ks) (s : Dk.DS) (n : Int) : shk size (fluL size ks s n) = fluL size ks s n := by
  unfold fluL
  split
  · split
    · split
      · exact sta_shk _ _
      · exact h
    · exact h
  · exact h
theorem md_split (ms : List Md) (n : Int) : (∀ m ∈ ms, m.kb.num ≠ n) ∨ ∃ A x B, ms = A ++ x :: B ∧ x.kb.num = n ∧ ∀ m ∈ A, m.kb.num ≠ n := by
  induction ms with
  | nil => left; intro m hm; cases hm
  | cons y r ih =>
    by_cases hy : y.kb.num = n
    · exact .inr ⟨[], y, r, rfl, hy, fun m hm => by cases hm⟩
    · rcases ih with h | ⟨A, x, B, rfl, hx, hA⟩
      · left
        intro m hm
        rcases List.mem_cons.1 hm with rfl | hm
        · exact hy
        · exact h m hm
      · refine .inr ⟨y :: A, x, B, rfl, hx, fun m hm => ?_⟩
        rcases List.mem_cons.1 hm with rfl | hm
        · exact hy
        · exact hA m hm
/-- Where the model finds a block, and what the list by contents makes of it. -/
theorem at_fnd {ms : List Md} {n : Int} (hn : ((ms.map Md.kb).map (·.num)).Nodup) : (atI ms n = -1 ∧ fndK (ms.map Md.kb) n = none) ∨
    ∃ k, k < ms.length ∧ atI ms n = k ∧ (ms.getD k md0).kb.num = n ∧ fndK (ms.map Md.kb) n = some (ms.getD k md0).kb ∧ (ms.take k ++ ms.drop (k + 1)).map Md.kb = (ms.map Md.kb).filter (fun y => y.num != n) ∧ ∀ z : Md, z.kb.num = n → (ms.set k z).map Md.kb = updK (ms.map Md.kb) z.kb := by
  rcases md_split ms n with h | ⟨A, x, B, rfl, rfl, hA⟩
  · refine .inl ⟨at_none (fun j hj => ?_), ?_⟩
    · rw [List.getD_eq_getElem?_getD, List.getElem?_eq_getElem hj]
      exact h _ (List.getElem_mem hj)
    · unfold fndK
      rw [List.find?_eq_none]
      intro y hy
      obtain ⟨m, hm, rfl⟩ := List.mem_map.1 hy
      simpa using h m hm
  · have hB : ∀ m ∈ B, m.kb.num ≠ x.kb.num := fun m hm e' => by
      rw [List.map_append, List.map_append, List.map_cons, List.map_cons, List.nodup_append] at hn
      have h2 := (List.nodup_cons.1 hn.2.1).1
      exact h2 (by rw [← e']; exact List.mem_map.2 ⟨m.kb, List.mem_map.2 ⟨m, hm, rfl⟩, rfl⟩)
    have hg : (A ++ x :: B).getD A.length md0 = x := by simp [List.getD]
    have hlen : A.length < (A ++ x :: B).length := by simp
    refine .inr ⟨A.length, hlen, at_is hlen (by rw [hg]) (fun j hj => ?_), by rw [hg], ?_, ?_, fun z hz => ?_⟩
    · rw [List.getD_eq_getElem?_getD, List.getElem?_append_left hj, List.getElem?_eq_getElem hj]
      exact hA _ (List.getElem_mem hj)
    · rw [hg]
      unfold fndK
      rw [List.map_append, List.map_cons, List.find?_append, List.find?_eq_none.2 (fun y hy => by
        obtain ⟨m, hm, rfl⟩ := List.mem_map.1 hy
        simpa using hA m hm)]
      simp
    · have e1 : (A ++ x :: B).take A.length = A := List.take_left' rfl
      have e2 : (A ++ x :: B).drop (A.length + 1) = B := by rw [← List.drop_drop, List.drop_left' rfl]; rfl
      rw [e1, e2, List.map_append, List.map_append, List.filter_append, List.map_cons, List.filter_cons, if_neg (by simp)]
      rw [List.filter_eq_self.2 (fun y hy => by
        obtain ⟨m, hm, rfl⟩ := List.mem_map.1 hy
        simpa using hA m hm), List.filter_eq_self.2 (fun y hy => by
        obtain ⟨m, hm, rfl⟩ := List.mem_map.1 hy
        simpa using hB m hm)]
    · have e1 : (A ++ x :: B).set A.length z = A ++ z :: B := by rw [List.set_append_right _ _ (Nat.le_refl _), Nat.sub_self]; rfl
      unfold updK
      rw [e1, List.map_map, List.map_append, List.map_append, List.map_cons, List.map_cons]
      refine congr (congrArg _ (List.map_congr_left (fun m hm => ?_))) (congr (congrArg _ ?_) (List.map_congr_left (fun m hm => ?_)))
      · have := hA m hm
        show m.kb = if m.kb.num = z.kb.num then z.kb else m.kb
        rw [hz, if_neg this]
      · show z.kb = if x.kb.num = z.kb.num then z.kb else x.kb
        rw [hz, if_pos rfl]
      · have := hB m hm
        show m.kb = if m.kb.num = z.kb.num then z.kb else m.kb
        rw [hz, if_neg this]
/-- One cell of the model's row turns. -/
theorem mdCs_set (ms : List Md) (k j : Nat) (hk : k < ms.length) (hj : j < 4) (v : Value) (z : Md) (hz : mdC z = (mdC (ms.getD k md0)).set j v) : (mdCs ms).set (k * 4 + j) v = mdCs (ms.set k z) := by
  induction ms generalizing k with
  | nil => simp at hk
  | cons m r ih =>
    cases k with
    | zero =>
      rw [mdCs_cons, List.set_append_left _ _ (by rw [mdC_length]; omega), List.set_cons_zero, mdCs_cons, Nat.zero_mul, Nat.zero_add]
      rw [hz]
      rfl
    | succ k =>
      rw [mdCs_cons, List.set_append_right _ _ (by rw [mdC_length]; omega), List.set_cons_succ, mdCs_cons, mdC_length, show (k + 1) * 4 + j - 4 = k * 4 + j by omega, ih k (by simpa using hk) hz]
theorem MoAt.upd {F : Nat → Prop} {W : World} {mm e size : Nat} {reads : Int} {ms : List Md} {g c : Nat} (h : MoAt F W mm (.slice (some ⟨g, 0, none⟩) ms.length c) e size reads ms) (k j : Nat) (hk : k < ms.length) (hj : j < 4) (v : Value) (z : Md) (hz : mdC z = (mdC (ms.getD k md0)).set j v) (hd : W.ownsRow 0 5 1 (.slice (some ⟨z.g, 0, none⟩) 1024 z.cap) 1024 (By z.kb.dat) ∧ F z.g) :
    MoAt F (W.setCell ⟨g, k * 4 + j, none⟩ v) mm (.slice (some ⟨g, 0, none⟩) (ms.set k z).length c) e size reads (ms.set k z) ∧ Only F W (W.setCell ⟨g, k * 4 + j, none⟩ v) := by
  have hgm : mm ≠ g := fun e' => (h.rest (k := g)).1 rfl e'.symm
  have hgF := h.rowF g rfl
  obtain ⟨h1, h2⟩ := h.row
  rcases h2 with ⟨hq, _⟩ | ⟨g', cap', cur, hv, hg, hh, hnc, hm, hsz, ht⟩
  · cases hq
  cases hv
  have hrow : ∀ (q cap : Nat) (dt : List Int), W.ownsRow 0 5 1 (.slice (some ⟨q, 0, none⟩) 1024 cap) 1024 (By dt) → (W.setCell ⟨g, k * 4 + j, none⟩ v).ownsRow 0 5 1 (.slice (some ⟨q, 0, none⟩) 1024 cap) 1024 (By dt) := fun q cap dt ho => by
    refine owns_at ho (fun k' hk' => ?_)
    obtain rfl : q = k' := by simpa [Value.ownBlock] using hk'
    refine set_other _ _ _ _ (fun ee => ?_)
    rcases ho.2 with ⟨hq, _⟩ | ⟨q', cap', cur', hq, _, hh', _⟩
    · cases hq
    · cases hq
      rw [ee, hh] at hh'
      simp at hh'
  refine ⟨⟨h.fm, by rw [List.length_set]; exact (set_other _ _ _ _ hgm).trans h.blk, ⟨?_, .inr ⟨g, c, _, rfl, hg, blk_set hh, by simpa using hnc, hm, by simpa using hsz, ?_⟩⟩, fun q hq => h.rowF q hq, fun m hm' => ?_⟩, (Only.refl F W).setCell (p := ⟨g, k * 4 + j, none⟩) (.inl hgF) _⟩
  · rw [mdCs_length]
  · rw [← mdCs_set ms k j hk hj v z hz, ← ht, List.length_set]
    simp only [Array.toList_setIfInBounds]
    rw [List.take_set]
  · rcases List.mem_or_eq_of_mem_set hm' with hm' | rfl
    · exact ⟨hrow _ _ _ (h.dat m hm').1, (h.dat m hm').2⟩
    · exact ⟨hrow _ _ _ hd.1, hd.2⟩
end Go.Proofs.Ytmbhjheoomlggaa
