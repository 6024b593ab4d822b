/-
  A tree of which one node turns; a tree that gets one node more.
-/
import Derived.Test.YtehaoeclnmelhacGreatLayNn
namespace Go.Proofs.YtehaoeclnmelhacGreat
open Go Go.Proofs Go.RowKit Go.Shelf

theorem locL_set {Ls : List Lay} {d : Nat} {L L' : Lay} (h : Ls[d]? = some L) (hb : L'.b = L.b) : locL (Ls.set d L') = locL Ls := by
  funext j
  unfold locL
  by_cases e : j = d
  · subst e
    rw [h, List.getElem?_set_self (List.getElem?_eq_some_iff.1 h).1]
    simp [hb]
  · rw [List.getElem?_set_ne (fun h => e h.symm)]
theorem slotCs_loc {loc loc' : Nat → Nat} {s : List Slt} (h : ∀ q, some q ∈ s → loc q.1 = loc' q.1) : slotCs loc s = slotCs loc' s := by
  induction s with
  | nil => rfl
  | cons a s ih =>
    have e : ∀ l : Nat → Nat, slotCs l (a :: s) = slotC l a ++ slotCs l s := fun _ => rfl
    rw [e, e, ih (fun q hq => h q (List.mem_cons_of_mem _ hq))]
    cases a with
    | none => rfl
    | some q => simp only [slotC, h q (by simp)]
theorem NdAt.reloc {W : World} {loc loc' : Nat → Nat} {L : Lay} {d : Nd} (h : NdAt W loc L d) (hl : ∀ q, some q ∈ d.slots → loc q.1 = loc' q.1) : NdAt W loc' L d := by
  cases L <;> cases d <;> simp only [NdAt] at h ⊢
  · exact h
  · rename_i l z s
    have e : slotCs loc s = slotCs loc' s := slotCs_loc hl
    exact ⟨h.node, by rw [← e]; exact h.row, h.places, h.names⟩
theorem feet_set {t d : Nat} {Ls : List Lay} {L L' : Lay} (h : Ls[d]? = some L) (hn : (feet t Ls).Nodup) {N : Nat} (hlt : ∀ k ∈ feet t Ls, k < N) (h1 : ∀ k ∈ L'.foot, k ∈ L.foot ∨ N ≤ k) (h2 : L'.foot.Nodup) : (feet t (Ls.set d L')).Nodup ∧ ∀ k ∈ feet t (Ls.set d L'), k ∈ feet t Ls ∨ (N ≤ k ∧ k ∈ L'.foot) := by
  have mem : ∀ k ∈ feet t (Ls.set d L'), k ∈ feet t Ls ∨ (N ≤ k ∧ k ∈ L'.foot) := by
    intro k hk
    rcases List.mem_cons.1 hk with rfl | hk
    · exact .inl (by simp [feet])
    · obtain ⟨A, hA, hkA⟩ := List.mem_flatMap.1 hk
      rcases List.mem_or_eq_of_mem_set hA with hA | rfl
      · exact .inl (List.mem_cons_of_mem _ (List.mem_flatMap.2 ⟨A, hA, hkA⟩))
      · rcases h1 k hkA with h3 | h3
        · exact .inl (mem_feet h h3)
        · exact .inr ⟨h3, hkA⟩
  refine ⟨?_, mem⟩
  obtain ⟨hi, he⟩ := List.getElem?_eq_some_iff.1 h
  have e1 : Ls = Ls.take d ++ L :: Ls.drop (d + 1) := by
    conv => lhs; rw [← List.take_append_drop d Ls, List.drop_eq_getElem_cons hi, he]
  have e2 : Ls.set d L' = Ls.take d ++ L' :: Ls.drop (d + 1) := by rw [List.set_eq_take_append_cons_drop, if_pos hi]
  unfold feet at hn ⊢
  rw [e2]
  have hlt' : ∀ k, k ∈ t :: (Ls.take d ++ L :: Ls.drop (d + 1)).flatMap Lay.foot → k < N := fun k hk => hlt k (by unfold feet; rw [e1]; exact hk)
  rw [e1] at hn
  clear hlt h mem e1 e2 he
  generalize Ls.take d = A at *
  generalize Ls.drop (d + 1) = C at *
  simp only [List.flatMap_append, List.flatMap_cons, List.nodup_cons, List.nodup_append, List.mem_append, List.mem_cons, not_or] at hn hlt' ⊢
  obtain ⟨⟨n1, n2, n3⟩, n4, ⟨n5, n6, n7⟩, n8⟩ := hn
  refine ⟨⟨n1, fun hk => ?_, n3⟩, n4, ⟨h2, n6, fun a ha b hb => ?_⟩, fun a ha b hb => ?_⟩
  · rcases h1 t hk with h | h
    · exact n2 h
    · have := hlt' t (.inl rfl); omega
  · rcases h1 a ha with h | h
    · exact n7 a h b hb
    · have := hlt' b (.inr (.inr (.inr hb)))
      omega
  · rcases hb with hb | hb
    · rcases h1 b hb with h | h
      · exact n8 a ha b (.inl h)
      · have := hlt' a (.inr (.inl ha))
        omega
    · exact n8 a ha b (.inr hb)
/-- A tree of which one node and the counts turn. -/
theorem TrAt.turn {W W' : World} {t : Nat} {σ : Tr} {Ls : List Lay} (h : TrAt W t σ Ls) {d : Nat} {L L' : Lay} {n' : Nd} (hd : Ls[d]? = some L) (hb : L'.b = L.b) (ho : Only (fun k => k = t ∨ k ∈ L.foot) W W') {i' b' : Int}
    (ht : TbAt W' t σ.G σ.I σ.D (locL Ls 0) i' b') (hn : NdAt W' (locL Ls) L' n') (h1 : ∀ k ∈ L'.foot, k ∈ L.foot ∨ W.heap.size ≤ k) (h2 : L'.foot.Nodup) (hr : ∀ q, some q ∈ n'.slots → q.1 < σ.nodes.length) (hk : d = 0 → n'.isDir = true) :
    TrAt W' t { σ with inodes := i', blocks := b', nodes := σ.nodes.set d n' } (Ls.set d L') := by
  obtain ⟨f1, f2⟩ := feet_set (t := t) hd h.apart (fun k hk => h.lt k hk) h1 h2
  have hloc := locL_set hd hb
  have hdl : d < σ.nodes.length := by rw [← h.len]; exact (List.getElem?_eq_some_iff.1 hd).1
  refine ⟨by rw [hloc]; exact ht, by simp [h.len], fun j A n hA hN => ?_, f1, fun n hN q hq => ?_, ?_⟩
  · rw [hloc]
    by_cases e : j = d
    · subst e
      rw [List.getElem?_set_self (List.getElem?_eq_some_iff.1 hd).1] at hA
      simp only [List.getElem?_set_self hdl] at hN
      cases hA
      cases hN
      exact hn
    · rw [List.getElem?_set_ne (fun h => e h.symm)] at hA
      simp only [List.getElem?_set_ne (fun h => e h.symm)] at hN
      refine (h.node j A n hA hN).kept (fun k hk => ho.block k (h.lt k (mem_feet hA hk)) (fun hs => ?_))
      rcases hs with rfl | hs
      · exact (List.nodup_cons.1 h.apart).1 (List.mem_flatMap.2 ⟨A, List.mem_of_getElem? hA, hk⟩)
      · exact e (foot_apart (List.nodup_cons.1 h.apart).2 hA hd hk hs)
  · simp only [List.length_set]
    rcases List.mem_or_eq_of_mem_set hN with hN | rfl
    · exact h.refs n hN q hq
    · exact hr q hq
  · obtain ⟨l, z, s, h0⟩ := h.root
    by_cases e : d = 0
    · subst e
      simp only [List.getElem?_set_self hdl]
      have := hk rfl
      cases n' with
      | file => cases this
      | dir l z s => exact ⟨l, z, s, rfl⟩
    · simp only [List.getElem?_set_ne e]
      exact ⟨l, z, s, h0⟩
theorem locL_push (Ls : List Lay) (L : Lay) {j : Nat} (hj : j < Ls.length) : locL (Ls ++ [L]) j = locL Ls j := by
  unfold locL
  rw [List.getElem?_append_left hj]
theorem locL_last (Ls : List Lay) (L : Lay) : locL (Ls ++ [L]) Ls.length = L.b := by
  unfold locL
  simp
/-- A tree with a node more, which nothing names yet. -/
theorem TrAt.push {W : World} {t : Nat} {σ : Tr} {Ls : List Lay} (h : TrAt W t σ Ls) {L : Lay} {n : Nd} (hn : NdAt W (locL Ls) L n) (hs : ∀ q, some q ∉ n.slots) (h1 : ∀ k ∈ L.foot, k ∉ feet t Ls) (h2 : L.foot.Nodup) : TrAt W t { σ with nodes := σ.nodes ++ [n] } (Ls ++ [L]) := by
  obtain ⟨l0, z0, s0, h0⟩ := h.root
  have hpos : 0 < Ls.length := by rw [h.len]; exact (List.getElem?_eq_some_iff.1 h0).1
  refine ⟨by rw [locL_push _ _ hpos]; exact h.tree, by simp [h.len], fun j A m hA hM => ?_, ?_, fun m hM q hq => ?_, ⟨l0, z0, s0, ?_⟩⟩
  · rcases Nat.lt_trichotomy j Ls.length with hj | hj | hj
    · rw [List.getElem?_append_left hj] at hA
      simp only [List.getElem?_append_left (show j < σ.nodes.length by rw [← h.len]; exact hj)] at hM
      refine (h.node j A m hA hM).reloc (fun q hq => ?_)
      rw [locL_push]
      rw [h.len]
      exact h.refs m (List.mem_of_getElem? hM) q hq
    · subst hj
      rw [List.getElem?_append_right (Nat.le_refl _)] at hA
      have hM' : (σ.nodes ++ [n])[Ls.length]? = some m := hM
      rw [h.len, List.getElem?_append_right (Nat.le_refl _)] at hM'
      simp at hA hM'
      subst hA
      subst hM'
      exact hn.reloc (fun q hq => absurd hq (hs q))
    · rw [List.getElem?_eq_none (by simp; omega)] at hA
      cases hA
  · unfold feet at h1 ⊢
    rw [List.flatMap_append, ← List.cons_append, List.nodup_append]
    refine ⟨h.apart, by simpa using h2, fun a ha b hb e => ?_⟩
    subst e
    exact h1 a (by simpa using hb) ha
  · simp only [List.length_append, List.length_cons, List.length_nil]
    rcases List.mem_append.1 hM with hM | hM
    · have := h.refs m hM q hq
      omega
    · rw [List.mem_singleton.1 hM] at hq
      exact absurd hq (hs q)
  · rw [List.getElem?_append_left (List.getElem?_eq_some_iff.1 h0).1]
    exact h0
end Go.Proofs.YtehaoeclnmelhacGreat
