/-
  add, whatever room there is; the tree behind 'enter'.
-/
import Derived.Test.YtehaoeclnmelhabGreatTrEnter
namespace Go.Proofs.YtehaoeclnmelhabGreat
open Go Go.Proofs Go.RowKit Go.Shelf Go.Sort

theorem TrAt.tb {W : World} {t : Nat} {σ : Tr} {Ls : List Lay} (h : TrAt W t σ Ls) : TbAt W t σ.G σ.I σ.D (locL Ls 0) σ.inodes σ.blocks := h.tree
theorem growth_bound (n : Nd) (hk : n.Ok) : -300 ≤ n.growth ∧ n.growth ≤ 1048576 + 300 := by
  unfold Nd.growth
  split
  · omega
  · have h1 := room_bound (n.nos ++ [(n.nos.length : Int)])
    have h2 := room_bound n.nos
    have h3 := nos_len n hk
    have h4 : (n.nos.length : Int) ≤ roomL n.nos := by unfold roomL; omega
    have h5 : ((n.nos ++ [(n.nos.length : Int)]).length : Int) ≤ roomL (n.nos ++ [(n.nos.length : Int)]) := by unfold roomL; omega
    simp only [List.length_append, List.length_cons, List.length_nil] at h1 h5
    omega
theorem add_any (w : World) (loc : Nat → Nat) (b m r c : Nat) (l z : Int) (s : List Slt) (h : DrAt w loc b m r c l z s) (hd : [b, m, r].Nodup) (hn : s.length ≤ 16777216) (p : List UInt8) (hp : p.length ≤ 1000) (hno : lookS s p = none) (j : Nat) :
    Calls Tryz.prog 45 #[ptrV b, strV p, ptrV (loc j)] w fun e w' => e = .returned (.tuple #[]) ∧ ∃ r' c' z' s', Nd.add p j (.dir l z s) = .dir l z' s' ∧ DrAt w' loc b m r' c' l z' s' ∧ Only (fun k => k = b ∨ k = m ∨ k = r) w w' ∧ (r' = r ∨ (w.heap.size ≤ r' ∧ r' < w'.heap.size)) := by
  have hno' : ¬ nameAt s p < s.length := fun h => by
    have := look_lt s p
    rw [hno] at this
    simp [h] at this
  by_cases hf : freeAt s < s.length
  · refine (add_room w loc b m r c l z s h hd hn p hp hno' hf j).mono ?_
    rintro e w' ⟨h1, h2, h3⟩
    exact ⟨h1, r, c, z, _, by simp [Nd.add, hf], h2, h3.mono (fun i _ hi => .inr hi), .inl rfl⟩
  · have hf' : freeAt s = s.length := by
      have := List.findIdx_le_length (p := fun o : Slt => o.isNone) (xs := s)
      change freeAt s ≤ s.length at this
      omega
    refine (add_grow w loc b m r c l z s h hd hn p hp hno' hf' j).mono ?_
    rintro e w' ⟨h1, r', c', h2, h3, h4⟩
    exact ⟨h1, r', c', _, _, by simp [Nd.add, hf], h2, h3, h4⟩
theorem foot_nodup {Ls : List Lay} (h : (Ls.flatMap Lay.foot).Nodup) {i : Nat} {A : Lay} (hi : Ls[i]? = some A) : A.foot.Nodup := by
  induction Ls generalizing i with
  | nil => simp at hi
  | cons L Ls ih =>
    rw [List.flatMap_cons, List.nodup_append] at h
    cases i with
    | zero => simp at hi; subst hi; exact h.1
    | succ i => simp at hi; exact ih h.2.1 hi
theorem modify_set {α : Type} {l : List α} {d : Nat} {x : α} (h : l[d]? = some x) (f : α → α) : l.modify d f = l.set d (f x) := by
  apply List.ext_getElem?
  intro i
  rw [List.getElem?_modify, List.getElem?_set]
  by_cases e : d = i
  · subst e
    rw [if_pos rfl, h, if_pos (List.getElem?_eq_some_iff.1 h).1]
    simp
  · rw [if_neg e]
    simp [e]
/-- The tree behind 'enter'. -/
theorem enter_fin {w W' : World} {t : Nat} {σ : Tr} {Ls : List Lay} (hT : TrAt w t σ Ls) {L : Lay} {n : Nd} (hN : NdAt w (locL Ls) L n) (hns : ∀ q, some q ∉ n.slots) (h1 : ∀ k ∈ L.foot, k ∉ feet t Ls) (h2 : L.foot.Nodup) {d b m r c r' c' : Nat} {l z z' l' : Int} {s s' : List Slt} (q1 : Ls[d]? = some (.dir b m r c)) (q2 : σ.nodes[d]? = some (.dir l z s)) (p : List UInt8)
    (ha : Nd.add p σ.nodes.length (.dir l z s) = .dir l z' s') (hl : l' = if n.isDir = true then w64 (l + 1) else l) (hD : DrAt W' (locL (Ls ++ [L])) b m r' c' l' z' s') (hr : r' = r ∨ w.heap.size ≤ r') (hb : TbAt W' t σ.G σ.I σ.D (locL Ls 0) (w64 (σ.inodes + 1)) (w64 (σ.blocks + enterB σ d n)))
    (ho : Only (fun k => k = t ∨ k = b ∨ k = m ∨ k = r) w W') : Step (fun k => k ∈ feet t Ls ∨ k ∈ L.foot) w t W' (enterT σ d p n) := by
  have hP := hT.push hN hns h1 h2
  have hdl := (List.getElem?_eq_some_iff.1 q2).1
  have q1' : (Ls ++ [L])[d]? = some (.dir b m r c) := by rw [List.getElem?_append_left (List.getElem?_eq_some_iff.1 q1).1]; exact q1
  have q2' : (σ.nodes ++ [n])[d]? = some (.dir l z s) := by rw [List.getElem?_append_left hdl]; exact q2
  have hpos : 0 < Ls.length := by
    obtain ⟨_, _, _, h0⟩ := hT.root
    rw [hT.len]
    exact (List.getElem?_eq_some_iff.1 h0).1
  have hnd : [b, m, r].Nodup := foot_nodup (List.nodup_cons.1 hP.apart).2 q1'
  have hnd' : [b, m, r'].Nodup := by
    rcases hr with rfl | hr
    · exact hnd
    · have e1 := hP.lt b (mem_feet q1' (by simp [Lay.foot]))
      have e2 := hP.lt m (mem_feet q1' (by simp [Lay.foot]))
      simp at hnd ⊢
      exact ⟨⟨hnd.1.1, by omega⟩, by omega⟩
  have hn' : (if n.isDir = true then (Nd.add p σ.nodes.length (.dir l z s)).more 1 else Nd.add p σ.nodes.length (.dir l z s)) = .dir l' z' s' := by
    rw [ha, hl]
    split <;> rfl
  have hslots : ∀ q, some q ∈ s' → q.1 < σ.nodes.length + 1 := by
    intro q hq
    have hold : ∀ q, some q ∈ s → q.1 < σ.nodes.length := fun q hq => hT.refs _ (List.mem_of_getElem? q2) q hq
    have hset : ∀ (u : List Slt) (k : Nat), some q ∈ u.set k (some (σ.nodes.length, p)) → some q ∈ u ∨ q = (σ.nodes.length, p) := fun u k h => by
      rcases List.mem_or_eq_of_mem_set h with h | h
      · exact .inl h
      · cases h; exact .inr rfl
    simp only [Nd.add] at ha
    split at ha
    · cases ha
      rcases hset _ _ hq with h | h
      · have := hold q h; omega
      · rw [h]; simp
    · cases ha
      rcases hset _ _ hq with h | h
      · rcases List.mem_append.1 h with h | h
        · have := hold q h; omega
        · have := List.eq_of_mem_replicate h; cases this
      · rw [h]; simp
  have hfin := hP.turn (L' := .dir b m r' c') (n' := .dir l' z' s') q1' rfl (ho.mono (fun i _ hi => by simpa [Lay.foot] using hi)) (i' := w64 (σ.inodes + 1)) (b' := w64 (σ.blocks + enterB σ d n)) (by rw [locL_push _ _ hpos]; exact hb) hD
    (fun k hk => by
      simp only [Lay.foot, List.mem_cons, List.not_mem_nil, or_false] at hk ⊢
      rcases hk with rfl | rfl | rfl
      · exact .inl (.inl rfl)
      · exact .inl (.inr (.inl rfl))
      · rcases hr with rfl | hr
        · exact .inl (.inr (.inr rfl))
        · exact .inr hr) hnd' (fun q hq => by simpa using hslots q hq) (fun _ => rfl)
  refine ⟨⟨(Ls ++ [L]).set d (.dir b m r' c'), ?_, fun k hk => ?_⟩, ho.mono (fun i hi h => ?_)⟩
  · unfold enterT
    rw [modify_set q2', hn']
    exact hfin
  · have := (feet_set (t := t) (L' := .dir b m r' c') q1' hP.apart (fun k hk => hP.lt k hk) (fun k hk => by
      simp only [Lay.foot, List.mem_cons, List.not_mem_nil, or_false] at hk ⊢
      rcases hk with rfl | rfl | rfl
      · exact .inl (.inl rfl)
      · exact .inl (.inr (.inl rfl))
      · rcases hr with rfl | hr
        · exact .inl (.inr (.inr rfl))
        · exact .inr hr) hnd').2 k hk
    rcases this with h | h
    · refine .inl ?_
      unfold feet at h ⊢
      rw [List.flatMap_append, List.mem_cons, List.mem_append] at h
      rcases h with rfl | h | h
      · exact .inl (by simp)
      · exact .inl (List.mem_cons_of_mem _ h)
      · exact .inr (by simpa using h)
    · exact .inr h.1
  · refine .inl ?_
    rcases h with rfl | h
    · simp [feet]
    · exact mem_feet q1 (by simpa [Lay.foot] using h)
end Go.Proofs.YtehaoeclnmelhabGreat
