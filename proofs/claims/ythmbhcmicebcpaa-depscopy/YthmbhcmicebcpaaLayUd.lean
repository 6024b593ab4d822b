/-
  What under goes over: the iterator.
-/
import Derived.Test.YthmbhcmicebcpaaLayOw
import Derived.Sort.MapsRangeIn
import Derived.Sort.BigQuietIn
import Derived.Laws.IdiomRangeMap
namespace Go.Proofs.Ythmbhcmicebcpaa
open Go Go.Proofs Go.RowKit Go.Shelf
attribute [local go_sem] Oper.semAt_some
/-- Inside the innermost loop: those of P are looked at. -/
structure UnP (G : Gp) (xs S L ys : List Int) (i : Int) (P : Int → Prop) : Prop where
  nd : ys.Nodup
  ld : L.Nodup
  ls : ∀ x ∈ L, x ∈ S ∧ x ∉ ys
  yu : ∀ y ∈ ys, und G y ∧ y ∈ S
  all : ∀ x ∈ S, x ∈ L ∨ x ∈ ys ∨ ¬ und G x
  xs' : ∀ x ∈ xs, x ∈ S
  cl : ∀ y ∈ ys, ∀ x, hng G y x → (y = i → P x) → x ∈ S
  re : ∀ x ∈ S, Reach G xs x
  ii : i ∈ ys
  ln : L.length ≤ S.length
theorem un_take {G : Gp} {xs S L ys : List Int} {i : Int} (h : UnI G xs S (L ++ [i]) ys) (hi : und G i) : UnP G xs S L (ys ++ [i]) i (fun _ => False) := by
  have hl := h.ls i (by simp)
  have hnd := List.nodup_append.1 h.ld
  refine ⟨List.nodup_append.2 ⟨h.nd, by simp, fun a ha b hb e => ?_⟩, hnd.1, fun x hx => ⟨(h.ls x (by simp [hx])).1, fun q => ?_⟩, fun y hy => ?_, fun x hx => ?_, h.xs', fun y hy x hx hp => ?_, h.re, by simp, by have := h.ln; simp at this; omega⟩
  · rw [List.mem_singleton.1 hb] at e
    exact hl.2 (e ▸ ha)
  · rcases List.mem_append.1 q with q | q
    · exact (h.ls x (by simp [hx])).2 q
    · exact hnd.2.2 x hx i (by simp) (List.mem_singleton.1 q)
  · rcases List.mem_append.1 hy with q | q
    · exact h.yu y q
    · rw [List.mem_singleton.1 q]; exact ⟨hi, hl.1⟩
  · rcases h.all x hx with q | q | q
    · rcases List.mem_append.1 q with q | q
      · exact .inl q
      · exact .inr (.inl (by simp [List.mem_singleton.1 q]))
    · exact .inr (.inl (by simp [q]))
    · exact .inr (.inr q)
  · rcases List.mem_append.1 hy with q | q
    · exact h.cl y q x hx
    · exact (hp (List.mem_singleton.1 q)).elim
theorem un_seen {G : Gp} {xs S L ys : List Int} {i x : Int} {P P' : Int → Prop} (h : UnP G xs S L ys i P) (hx : x ∈ S) (hP : ∀ z, P' z → P z ∨ z = x) : UnP G xs S L ys i P' :=
  ⟨h.nd, h.ld, h.ls, h.yu, h.all, h.xs', fun y hy z hz hp => by
    by_cases e : y = i
    · rcases hP z (hp e) with q | q
      · exact h.cl y hy z hz (fun _ => q)
      · rw [q]; exact hx
    · exact h.cl y hy z hz (fun q => absurd q e), h.re, h.ii, h.ln⟩
theorem un_add {G : Gp} {xs S L ys : List Int} {i x : Int} {P P' : Int → Prop} (h : UnP G xs S L ys i P) (hx : hng G i x) (hS : x ∉ S) (hP : ∀ z, P' z → P z ∨ z = x) : UnP G xs (insS x S) (L ++ [x]) ys i P' := by
  have hxy : x ∉ ys := fun q => hS (h.yu x q).2
  have hxl : x ∉ L := fun q => hS (h.ls x q).1
  refine ⟨h.nd, List.nodup_append.2 ⟨h.ld, by simp, fun a ha b hb e => ?_⟩, fun y hy => ?_, fun y hy => ⟨(h.yu y hy).1, mem_ins.2 (.inr (h.yu y hy).2)⟩, fun y hy => ?_, fun y hy => mem_ins.2 (.inr (h.xs' y hy)), fun y hy z hz hp => ?_, fun y hy => ?_, h.ii, by have := h.ln; rw [ins_length hS, List.length_append]; simp; omega⟩
  · rw [List.mem_singleton.1 hb] at e
    exact hxl (e ▸ ha)
  · rcases List.mem_append.1 hy with q | q
    · exact ⟨mem_ins.2 (.inr (h.ls y q).1), (h.ls y q).2⟩
    · rw [List.mem_singleton.1 q]; exact ⟨mem_ins.2 (.inl rfl), hxy⟩
  · rcases mem_ins.1 hy with q | q
    · exact .inl (by simp [q])
    · rcases h.all y q with q | q | q
      · exact .inl (by simp [q])
      · exact .inr (.inl q)
      · exact .inr (.inr q)
  · by_cases e : y = i
    · rcases hP z (hp e) with q | q
      · exact mem_ins.2 (.inr (h.cl y hy z hz (fun _ => q)))
      · exact mem_ins.2 (.inl q)
    · exact mem_ins.2 (.inr (h.cl y hy z hz (fun q => absurd q e)))
  · rcases mem_ins.1 hy with q | q
    · rw [q]; exact .step (h.re i (h.yu i h.ii).2) (h.yu i h.ii).1 hx
    · exact h.re y q
theorem un_done {G : Gp} {xs S L ys : List Int} {i : Int} {P : Int → Prop} (h : UnP G xs S L ys i P) (hP : ∀ x, hng G i x → P x) : UnI G xs S L ys :=
  ⟨h.nd, h.ld, h.ls, h.yu, h.all, h.xs', fun y hy x hx => h.cl y hy x hx (fun e => hP x (e ▸ hx)), h.re, h.ln⟩
/-- A row of ints that grows by one: where it lies. -/
theorem app_at (W : World) (v : Value) (xs : List Int) (hown : W.ownsRow 0 3 1 v xs.length (Iy xs)) (hn : xs.length ≤ 1000000) (x : Int) :
    ∃ v' W', (Builtin.append_ #[23, 23] 23 #[v, .slice (some ⟨W.heap.size, 0, none⟩) 1 1]).run Try.prog (W.alloc (.cells #[.int .i64 x] 3)) = .ok v' W' ∧ W'.ownsRow 0 3 1 v' (xs ++ [x]).length (Iy (xs ++ [x])) ∧ Only (fun k => v.ownBlock = some k) W W' ∧ ∀ k, v'.ownBlock = some k → v.ownBlock = some k ∨ W.heap.size ≤ k := by
  obtain ⟨i0, hi, hz0, hz1, hz2⟩ := info3p
  have hnew := blk_new W (.cells #[.int .i64 x] 3)
  have hs1 : (W.alloc (.cells #[.int .i64 x] 3)).heap.size = W.heap.size + 1 := by simp
  obtain ⟨v', W', hr, ho, hg, _, hv⟩ := run_append_own_at (P := Try.prog) (W.alloc (.cells #[.int .i64 x] 3)) 0 23 23 3 i0 (.int .i64 0) 1 8 Try.underlying23 hi hz0 hz1 hz2 rfl (by decide) v xs.length (Iy xs) (hown.alloc _) ⟨W.heap.size, 0, none⟩ 1 1 (Iy [x]) rfl (fun j u hj => by
    match j, hj with
    | 0, hj => cases hj; rw [add_at, blk_cell hnew]; rfl) (Iy_one _) (by unfold maxLen; omega) (by omega) (Nat.zero_le _)
  have e : Iy xs ++ Iy [x] = Iy (xs ++ [x]) := by simp [Iy]
  rw [e] at ho
  refine ⟨v', W', hr, by rw [List.length_append]; exact ho, ((Only.refl _ W).alloc _).grown hg (fun k hk => .inl hk), fun k hk => ?_⟩
  rcases hv with hv | hv
  · exact .inl (hv.symm.trans hk)
  · rw [hk] at hv
    have := Option.some.inj hv
    exact .inr (by omega)
theorem own_cut {W : World} {v : Value} {L : List Int} {x : Int} (h : W.ownsRow 0 3 1 v (L ++ [x]).length (Iy (L ++ [x]))) : ∃ g cap, v = .slice (some ⟨g, 0, none⟩) (L.length + 1) cap ∧ L.length + 1 ≤ cap ∧ W.ownsRow 0 3 1 (.slice (some ⟨g, 0, none⟩) L.length cap) L.length (Iy L) ∧ W.cell? ⟨g, L.length, none⟩ = some (.int .i64 x) := by
  rcases h.2 with ⟨_, q⟩ | ⟨g, cap, cur, rfl, h1, hg, h2, h3, h4, h5⟩
  · simp at q
  · rw [List.length_append] at h2 h5
    have hl : (L ++ [x]).length = L.length + 1 := by simp
    refine ⟨g, cap, by rw [hl], by simpa using h2, ⟨by simp [Iy], .inr ⟨g, cap, cur, rfl, h1, hg, by simp at h2; omega, h3, h4, ?_⟩⟩, ?_⟩
    · have : (cur.toList.take ((L.length + 1) * 1)).take (L.length * 1) = (Iy (L ++ [x])).take (L.length * 1) := by simpa using congrArg (List.take (L.length * 1)) h5
      rw [List.take_take, Nat.min_eq_left (by omega)] at this
      rw [this]
      simp [Iy]
    · rw [blk_cell hg]
      have : (cur.toList.take ((L.length + 1) * 1))[L.length]? = (Iy (L ++ [x]))[L.length]? := by simpa using congrArg (fun l => l[L.length]?) h5
      rw [List.getElem?_take, if_pos (by omega), Array.getElem?_toList] at this
      rw [this]
      simp [Iy]
end Go.Proofs.Ythmbhcmicebcpaa
namespace Go.Proofs.Ythmbhcmicebcpaa
open Go Go.Proofs Go.RowKit Go.Shelf
attribute [local go_sem] Oper.semAt_some
/-- The iterator's own: the set in its box, the row of what is to do, and other blocks R. -/
def UnS (J : List Int → (Nat → Prop) → World → Prop) (R : Nat → Prop) (bs : Nat) (S L ys : List Int) (tv : Value) (W : World) : Prop := ∃ It om, J ys It W ∧ (It bs ∧ bs < W.heap.size) ∧ W.heap[bs]? = some (.cells #[.map om] 64 (0, 0)) ∧ StAt W om S ∧ (∀ q, om = some q → It q ∧ q ≠ bs) ∧ W.ownsRow 0 3 1 tv L.length (Iy L) ∧ (∀ q, tv.ownBlock = some q → It q ∧ q ≠ bs ∧ om ≠ some q) ∧ ∀ k, R k → It k ∧ k ≠ bs ∧ om ≠ some k ∧ tv.ownBlock ≠ some k ∧ k < W.heap.size
section
variable {J : List Int → (Nat → Prop) → World → Prop} {R : Nat → Prop} {bs : Nat} {S L ys : List Int} {tv : Value} {W : World}
theorem UnS.jj (h : UnS J R bs S L ys tv W) : ∃ It, J ys It W ∧ (∀ k, R k → It k) := by
  obtain ⟨It, om, h1, _, _, _, _, _, _, h8⟩ := h
  exact ⟨It, h1, fun k q => (h8 k q).1⟩
theorem UnS.pw (h : UnS J R bs S L ys tv W) : S.Pairwise (· < ·) ∧ ∀ x ∈ S, (Lit.int .i64 x).wf = true := by
  obtain ⟨It, om, _, _, _, h4, _⟩ := h
  exact h4.1
theorem UnS.cell (h : UnS J R bs S L ys tv W) : ∃ om, W.cell? ⟨bs, 0, none⟩ = some (.map om) ∧ StAt W om S := by
  obtain ⟨It, om, _, _, h3, h4, _⟩ := h
  exact ⟨om, by rw [blk_cell h3]; rfl, h4⟩
theorem UnS.drew (h : UnS J R bs S L ys tv W) (hst : ∀ ys It It' A B, J ys It A → Only It A B → (∀ k, It' k → It k ∨ A.heap.size ≤ k) → J ys It' B) (q : Nat) : UnS J R bs S L ys tv (W.drewN q) := by
  obtain ⟨It, om, h1, h2, h3, h4, h5, h6, h7, h8⟩ := h
  exact ⟨It, om, hst ys It It _ _ h1 ⟨rfl, rfl, rfl, Nat.le_refl _, fun _ _ _ => rfl⟩ (fun _ q => .inl q), h2, h3, h4.kept (fun _ _ => rfl), h5, own_same h6 (fun _ _ => rfl), h7, h8⟩
/-- The last one to do is taken off. -/
theorem UnS.cut {x : Int} (h : UnS J R bs S (L ++ [x]) ys tv W) : ∃ g cap, tv = .slice (some ⟨g, 0, none⟩) (L.length + 1) cap ∧ L.length + 1 ≤ cap ∧ W.cell? ⟨g, L.length, none⟩ = some (.int .i64 x) ∧ UnS J R bs S L ys (.slice (some ⟨g, 0, none⟩) L.length cap) W := by
  obtain ⟨It, om, h1, h2, h3, h4, h5, h6, h7, h8⟩ := h
  obtain ⟨g, cap, rfl, hc, ho, hx⟩ := own_cut h6
  exact ⟨g, cap, rfl, hc, hx, It, om, h1, h2, h3, h4, h5, ho, h7, h8⟩
theorem UnS.more {R' : Nat → Prop} (h : UnS J R bs S L ys tv W) (hst : ∀ ys It It' A B, J ys It A → Only It A B → (∀ k, It' k → It k ∨ A.heap.size ≤ k) → J ys It' B) (W' : World) (hg : W.grownBy W' none) (hs : W'.heap.size = W.heap.size + 1) (hR : ∀ k, R' k → k = W.heap.size) : UnS J R' bs S L ys tv W' := by
  obtain ⟨It, om, h1, h2, h3, h4, h5, h6, h7, h8⟩ := h
  have hO : ∀ S, Only S W W' := fun S => (Only.refl S W).grown hg (fun k hk => by cases hk)
  have hk : ∀ k, k < W.heap.size → W'.heap[k]? = W.heap[k]? := fun k hk => (hO (fun _ => False)).block k hk (fun q => q)
  have hlm : ∀ q, om = some q → q < W.heap.size := fun q e => by subst e; exact h4.lt
  refine ⟨fun k => It k ∨ k = W.heap.size, om, hst ys It _ _ _ h1 (hO It) (fun k q => q.elim .inl (fun e => .inr (by omega))), ⟨.inl h2.1, by omega⟩, (hk bs h2.2).trans h3, h4.kept (fun q e => hk q (hlm q e)), fun q e => ⟨.inl (h5 q e).1, (h5 q e).2⟩, own_same h6 (fun q e => hk q (owns_lt h6 e)), fun q e => ⟨.inl (h7 q e).1, (h7 q e).2⟩, fun k q => ?_⟩
  have e := hR k q
  refine ⟨.inr e, by omega, fun e2 => by have := hlm k e2; omega, fun e2 => by have := owns_lt h6 e2; omega, by omega⟩
/-- Blocks of R turn. -/
theorem UnS.turn {S' : Nat → Prop} (h : UnS J R bs S L ys tv W) (hst : ∀ ys It It' A B, J ys It A → Only It A B → (∀ k, It' k → It k ∨ A.heap.size ≤ k) → J ys It' B) (W' : World) (hO : Only S' W W') (hS : ∀ k, S' k → R k) : UnS J R bs S L ys tv W' := by
  obtain ⟨It, om, h1, h2, h3, h4, h5, h6, h7, h8⟩ := h
  have hlm : ∀ q, om = some q → q < W.heap.size := fun q e => by subst e; exact h4.lt
  have hk : ∀ k, k < W.heap.size → ¬ R k → W'.heap[k]? = W.heap[k]? := fun k hk hn => hO.block k hk (fun q => hn (hS k q))
  refine ⟨It, om, hst ys It It _ _ h1 (hO.mono (fun k _ q => (h8 k (hS k q)).1)) (fun _ q => .inl q), ⟨h2.1, Nat.lt_of_lt_of_le h2.2 hO.size⟩, (hk bs h2.2 (fun q => (h8 bs q).2.1 rfl)).trans h3, h4.kept (fun q e => hk q (hlm q e) (fun r => (h8 q r).2.2.1 e)), h5, own_same h6 (fun q e => hk q (owns_lt h6 e) (fun r => (h8 q r).2.2.2.1 e)), h7, fun k q => ?_⟩
  obtain ⟨a1, a2, a3, a4, a5⟩ := h8 k q
  exact ⟨a1, a2, a3, a4, Nat.lt_of_lt_of_le a5 hO.size⟩
/-- A number is put into the set. -/
theorem UnS.add (h : UnS J R bs S L ys tv W) (hst : ∀ ys It It' A B, J ys It A → Only It A B → (∀ k, It' k → It k ∨ A.heap.size ≤ k) → J ys It' B) (hn : S.length < 1000000) (x : Int) (hx : (Lit.int .i64 x).wf = true) : Calls Try.prog 47 #[.pointer (some ⟨bs, 0, none⟩), .int .i64 x] W fun e W' => e = .returned (.bool (!decide (x ∈ S))) ∧ Hid (UnS J R bs (insS x S) L ys tv W' ∧ (∀ k, R k → W'.heap[k]? = W.heap[k]?) ∧ ∃ It, J ys It W ∧ ∀ k, ¬ It k → k < W.heap.size → W'.heap[k]? = W.heap[k]?) := by
  obtain ⟨It, om, h1, h2, h3, h4, h5, h6, h7, h8⟩ := h
  refine (add_any W bs 0 _ 64 om S h3 rfl h4 hn (fun e => (h5 bs e).2 rfl) x hx).mono ?_
  rintro e W' ⟨rfl, m', hm', a1, a2, a3⟩
  have hs := a3.size
  have hlm : ∀ q, om = some q → q < W.heap.size := fun q e => by subst e; exact h4.lt
  have hO : Only It W W' := a3.mono (fun k _ q => q.elim (fun e => by rw [e]; exact h2.1) (fun e => (h5 k e).1))
  refine ⟨rfl, Hid.mk ⟨⟨fun k => It k ∨ m' = some k, m', hst ys It _ _ _ h1 hO (fun k q => ?_), ⟨.inl h2.1, by omega⟩, by simpa using a1, a2, fun q e => ⟨.inr e, ?_⟩, own_same h6 (fun q e => a3.block q (owns_lt h6 e) (fun r => r.elim (fun e2 => (h7 q e).2.1 e2) (fun e2 => (h7 q e).2.2 e2))), fun q e => ⟨.inl (h7 q e).1, (h7 q e).2.1, fun e2 => ?_⟩, fun k q => ?_⟩, fun k q => a3.block k (h8 k q).2.2.2.2 (fun r => r.elim (h8 k q).2.1 (h8 k q).2.2.1), It, h1, fun k q1 q2 => hO.block k q2 q1⟩⟩
  · rcases q with q | q
    · exact .inl q
    · rcases hm' with rfl | ⟨_, q', e', hq'⟩
      · exact .inl (h5 k q).1
      · rw [e'] at q; cases q; exact .inr hq'
  · rcases hm' with rfl | ⟨_, q', e', hq'⟩
    · exact (h5 q e).2
    · rw [e'] at e; cases e; have := h2.2; omega
  · rcases hm' with rfl | ⟨_, q', e', hq'⟩
    · exact (h7 q e).2.2 e2
    · rw [e'] at e2; cases e2; have := owns_lt h6 e; omega
  · obtain ⟨b1, b2, b3, b4, b5⟩ := h8 k q
    refine ⟨.inl b1, b2, fun e2 => ?_, b4, by omega⟩
    rcases hm' with rfl | ⟨_, q', e', hq'⟩
    · exact b3 e2
    · rw [e'] at e2; cases e2; omega
/-- A number is put behind what is to do. -/
theorem UnS.app (h : UnS J R bs S L ys tv W) (hst : ∀ ys It It' A B, J ys It A → Only It A B → (∀ k, It' k → It k ∨ A.heap.size ≤ k) → J ys It' B) (hn : L.length ≤ 1000000) (x : Int) : ∃ tv' W', (Builtin.append_ #[23, 23] 23 #[tv, .slice (some ⟨W.heap.size, 0, none⟩) 1 1]).run Try.prog (W.alloc (.cells #[.int .i64 x] 3)) = .ok tv' W' ∧ Hid (UnS J R bs S (L ++ [x]) ys tv' W' ∧ (∀ k, R k → W'.heap[k]? = W.heap[k]?) ∧ ∃ It, J ys It W ∧ ∀ k, ¬ It k → k < W.heap.size → W'.heap[k]? = W.heap[k]?) := by
  obtain ⟨It, om, h1, h2, h3, h4, h5, h6, h7, h8⟩ := h
  obtain ⟨v', W', hr, ho, hO, hv⟩ := app_at W tv L h6 hn x
  have hs := hO.size
  have hlm : ∀ q, om = some q → q < W.heap.size := fun q e => by subst e; exact h4.lt
  have hO2 : Only It W W' := hO.mono (fun k _ q => (h7 k q).1)
  refine ⟨v', W', hr, Hid.mk ⟨⟨fun k => It k ∨ v'.ownBlock = some k, om, hst ys It _ _ _ h1 hO2 (fun k q => q.elim .inl (fun e => (hv k e).elim (fun e => .inl (h7 k e).1) .inr)), ⟨.inl h2.1, by omega⟩, (hO.block bs h2.2 (fun q => (h7 bs q).2.1 rfl)).trans h3, h4.kept (fun q e => hO.block q (hlm q e) (fun r => (h7 q r).2.2 e)), fun q e => ⟨.inl (h5 q e).1, (h5 q e).2⟩, ho, fun q e => ⟨.inr e, ?_, fun e2 => ?_⟩, fun k q => ?_⟩, fun k q => hO.block k (h8 k q).2.2.2.2 (h8 k q).2.2.2.1, It, h1, fun k q1 q2 => hO2.block k q2 q1⟩⟩
  · rcases hv q e with e | e
    · exact (h7 q e).2.1
    · have := h2.2; omega
  · rcases hv q e with e | e
    · exact (h7 q e).2.2 e2
    · have := hlm q e2; omega
  · obtain ⟨b1, b2, b3, b4, b5⟩ := h8 k q
    exact ⟨.inl b1, b2, b3, fun e => (hv k e).elim b4 (fun e => by omega), by omega⟩
theorem st_uniq {om : Option Nat} {S' : List Int} (h : StAt W om S) (h' : StAt W om S') : S = S' := by
  refine rise_ext h.1.1 h'.1.1 (fun x => ?_)
  by_cases hx : (Lit.int .i64 x).wf = true
  · have a1 := h.look2 hx
    have a2 := h'.look2 hx
    rw [a1] at a2
    simp at a2
    exact a2
  · exact ⟨fun q => absurd (h.1.2 x q) hx, fun q => absurd (h'.1.2 x q) hx⟩
open Classical in
noncomputable def setSz (W : World) (bs : Nat) : Nat := if h : ∃ S om, W.heap[bs]? = some (.cells #[.map om] 64 (0, 0)) ∧ StAt W om S then h.choose.length else 0
theorem setSz_eq (h : UnS J R bs S L ys tv W) : setSz W bs = S.length := by
  obtain ⟨It, om, _, _, h3, h4, _⟩ := h
  have hex : ∃ S om, W.heap[bs]? = some (.cells #[.map om] 64 (0, 0)) ∧ StAt W om S := ⟨S, om, h3, h4⟩
  unfold setSz
  rw [dif_pos hex]
  obtain ⟨om', q1, q2⟩ := hex.choose_spec
  rw [h3] at q1
  cases q1
  rw [st_uniq q2 h4]
end
def lenV : Value → Nat
  | .slice _ n _ => n
  | _ => 0
theorem UnS.len {J : List Int → (Nat → Prop) → World → Prop} {R : Nat → Prop} {bs : Nat} {S L ys : List Int} {tv : Value} {W : World} (h : UnS J R bs S L ys tv W) : ∃ ao c, tv = .slice ao L.length c := by
  obtain ⟨It, om, _, _, _, _, _, h6, _⟩ := h
  obtain ⟨ao, c, e, _⟩ := owns_lat h6
  exact ⟨ao, c, e⟩
end Go.Proofs.Ythmbhcmicebcpaa
