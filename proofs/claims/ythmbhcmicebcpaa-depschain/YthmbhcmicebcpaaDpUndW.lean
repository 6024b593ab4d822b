/-
  under, walked.
-/
import Derived.Test.YthmbhcmicebcpaaDpUnd
namespace Go.Proofs.Ythmbhcmicebcpaa
open Go Go.Proofs Go.RowKit Go.Shelf
attribute [local go_sem] Oper.semAt_some
/-- The iterator's own: the set in its box, the row of what is to do, and other blocks R. -/
def UnS (J : List Int → (Nat → Prop) → World → Prop) (R : Nat → Prop) (bs : Nat) (S L ys : List Int) (tv : Value) (W : World) : Prop := ∃ It om, J ys It W ∧ (It bs ∧ bs < W.heap.size) ∧ W.heap[bs]? = some (.cells #[.map om] 64 (0, 0)) ∧ StAt W om S ∧ (∀ q, om = some q → It q ∧ q ≠ bs) ∧ W.ownsRow 0 3 1 tv L.length (Iy L) ∧ (∀ q, tv.ownBlock = some q → It q ∧ q ≠ bs ∧ om ≠ some q) ∧ ∀ k, R k → It k ∧ k ≠ bs ∧ om ≠ some k ∧ tv.ownBlock ≠ some k ∧ k < W.heap.size
section
variable {J : List Int → (Nat → Prop) → World → Prop} {R : Nat → Prop} {bs : Nat} {S L ys : List Int} {tv : Value} {W : World}
theorem UnS.jj (h : UnS J R bs S L ys tv W) : ∃ It, J ys It W ∧ (∀ k, R k → It k) := by
  obtain ⟨It, om, h1, _, _, _, _, _, _, h8⟩ := h
  exact ⟨It, h1, fun k q => (h8 k q).1⟩
theorem UnS.pw (h : UnS J R bs S L ys tv W) : S.Pairwise (· < ·) ∧ ∀ x ∈ S, (Lit.int .i64 x).wf = true := by
  obtain ⟨It, om, _, _, _, h4, _⟩ := h
  exact h4.1
theorem UnS.cell (h : UnS J R bs S L ys tv W) : ∃ om, W.cell? ⟨bs, 0, none⟩ = some (.map om) ∧ StAt W om S := by
  obtain ⟨It, om, _, _, h3, h4, _⟩ := h
  exact ⟨om, by rw [blk_cell h3]; rfl, h4⟩
theorem UnS.drew (h : UnS J R bs S L ys tv W) (hst : ∀ ys It It' A B, J ys It A → Only It A B → (∀ k, It' k → It k ∨ A.heap.size ≤ k) → J ys It' B) (q : Nat) : UnS J R bs S L ys tv (W.drewN q) := by
  obtain ⟨It, om, h1, h2, h3, h4, h5, h6, h7, h8⟩ := h
  exact ⟨It, om, hst ys It It _ _ h1 ⟨rfl, rfl, rfl, Nat.le_refl _, fun _ _ _ => rfl⟩ (fun _ q => .inl q), h2, h3, h4.kept (fun _ _ => rfl), h5, own_same h6 (fun _ _ => rfl), h7, h8⟩
/-- The last one to do is taken off. -/
theorem UnS.cut {x : Int} (h : UnS J R bs S (L ++ [x]) ys tv W) : ∃ g cap, tv = .slice (some ⟨g, 0, none⟩) (L.length + 1) cap ∧ L.length + 1 ≤ cap ∧ W.cell? ⟨g, L.length, none⟩ = some (.int .i64 x) ∧ UnS J R bs S L ys (.slice (some ⟨g, 0, none⟩) L.length cap) W := by
  obtain ⟨It, om, h1, h2, h3, h4, h5, h6, h7, h8⟩ := h
  obtain ⟨g, cap, rfl, hc, ho, hx⟩ := own_cut h6
  exact ⟨g, cap, rfl, hc, hx, It, om, h1, h2, h3, h4, h5, ho, h7, h8⟩
theorem UnS.more {R' : Nat → Prop} (h : UnS J R bs S L ys tv W) (hst : ∀ ys It It' A B, J ys It A → Only It A B → (∀ k, It' k → It k ∨ A.heap.size ≤ k) → J ys It' B) (W' : World) (hg : W.grownBy W' none) (hs : W'.heap.size = W.heap.size + 1) (hR : ∀ k, R' k → k = W.heap.size) : UnS J R' bs S L ys tv W' := by
  obtain ⟨It, om, h1, h2, h3, h4, h5, h6, h7, h8⟩ := h
  have hO : ∀ S, Only S W W' := fun S => (Only.refl S W).grown hg (fun k hk => by cases hk)
  have hk : ∀ k, k < W.heap.size → W'.heap[k]? = W.heap[k]? := fun k hk => (hO (fun _ => False)).block k hk (fun q => q)
  have hlm : ∀ q, om = some q → q < W.heap.size := fun q e => by subst e; exact h4.lt
  refine ⟨fun k => It k ∨ k = W.heap.size, om, hst ys It _ _ _ h1 (hO It) (fun k q => q.elim .inl (fun e => .inr (by omega))), ⟨.inl h2.1, by omega⟩, (hk bs h2.2).trans h3, h4.kept (fun q e => hk q (hlm q e)), fun q e => ⟨.inl (h5 q e).1, (h5 q e).2⟩, own_same h6 (fun q e => hk q (owns_lt h6 e)), fun q e => ⟨.inl (h7 q e).1, (h7 q e).2⟩, fun k q => ?_⟩
  have e := hR k q
  refine ⟨.inr e, by omega, fun e2 => by have := hlm k e2; omega, fun e2 => by have := owns_lt h6 e2; omega, by omega⟩
/-- Blocks of R turn. -/
theorem UnS.turn {S' : Nat → Prop} (h : UnS J R bs S L ys tv W) (hst : ∀ ys It It' A B, J ys It A → Only It A B → (∀ k, It' k → It k ∨ A.heap.size ≤ k) → J ys It' B) (W' : World) (hO : Only S' W W') (hS : ∀ k, S' k → R k) : UnS J R bs S L ys tv W' := by
  obtain ⟨It, om, h1, h2, h3, h4, h5, h6, h7, h8⟩ := h
  have hlm : ∀ q, om = some q → q < W.heap.size := fun q e => by subst e; exact h4.lt
  have hk : ∀ k, k < W.heap.size → ¬ R k → W'.heap[k]? = W.heap[k]? := fun k hk hn => hO.block k hk (fun q => hn (hS k q))
  refine ⟨It, om, hst ys It It _ _ h1 (hO.mono (fun k _ q => (h8 k (hS k q)).1)) (fun _ q => .inl q), ⟨h2.1, Nat.lt_of_lt_of_le h2.2 hO.size⟩, (hk bs h2.2 (fun q => (h8 bs q).2.1 rfl)).trans h3, h4.kept (fun q e => hk q (hlm q e) (fun r => (h8 q r).2.2.1 e)), h5, own_same h6 (fun q e => hk q (owns_lt h6 e) (fun r => (h8 q r).2.2.2.1 e)), h7, fun k q => ?_⟩
  obtain ⟨a1, a2, a3, a4, a5⟩ := h8 k q
  exact ⟨a1, a2, a3, a4, Nat.lt_of_lt_of_le a5 hO.size⟩
/-- A number is put into the set. -/
theorem UnS.add (h : UnS J R bs S L ys tv W) (hst : ∀ ys It It' A B, J ys It A → Only It A B → (∀ k, It' k → It k ∨ A.heap.size ≤ k) → J ys It' B) (hn : S.length < 1000000) (x : Int) (hx : (Lit.int .i64 x).wf = true) : Calls Try.prog 47 #[.pointer (some ⟨bs, 0, none⟩), .int .i64 x] W fun e W' => e = .returned (.bool (!decide (x ∈ S))) ∧ Hid (UnS J R bs (insS x S) L ys tv W' ∧ (∀ k, R k → W'.heap[k]? = W.heap[k]?) ∧ ∃ It, J ys It W ∧ ∀ k, ¬ It k → k < W.heap.size → W'.heap[k]? = W.heap[k]?) := by
  obtain ⟨It, om, h1, h2, h3, h4, h5, h6, h7, h8⟩ := h
  refine (add_any W bs 0 _ 64 om S h3 rfl h4 hn (fun e => (h5 bs e).2 rfl) x hx).mono ?_
  rintro e W' ⟨rfl, m', hm', a1, a2, a3⟩
  have hs := a3.size
  have hlm : ∀ q, om = some q → q < W.heap.size := fun q e => by subst e; exact h4.lt
  have hO : Only It W W' := a3.mono (fun k _ q => q.elim (fun e => by rw [e]; exact h2.1) (fun e => (h5 k e).1))
  refine ⟨rfl, Hid.mk ⟨⟨fun k => It k ∨ m' = some k, m', hst ys It _ _ _ h1 hO (fun k q => ?_), ⟨.inl h2.1, by omega⟩, by simpa using a1, a2, fun q e => ⟨.inr e, ?_⟩, own_same h6 (fun q e => a3.block q (owns_lt h6 e) (fun r => r.elim (fun e2 => (h7 q e).2.1 e2) (fun e2 => (h7 q e).2.2 e2))), fun q e => ⟨.inl (h7 q e).1, (h7 q e).2.1, fun e2 => ?_⟩, fun k q => ?_⟩, fun k q => a3.block k (h8 k q).2.2.2.2 (fun r => r.elim (h8 k q).2.1 (h8 k q).2.2.1), It, h1, fun k q1 q2 => hO.block k q2 q1⟩⟩
  · rcases q with q | q
    · exact .inl q
    · rcases hm' with rfl | ⟨_, q', e', hq'⟩
      · exact .inl (h5 k q).1
      · rw [e'] at q; cases q; exact .inr hq'
  · rcases hm' with rfl | ⟨_, q', e', hq'⟩
    · exact (h5 q e).2
    · rw [e'] at e; cases e; have := h2.2; omega
  · rcases hm' with rfl | ⟨_, q', e', hq'⟩
    · exact (h7 q e).2.2 e2
    · rw [e'] at e2; cases e2; have := owns_lt h6 e; omega
  · obtain ⟨b1, b2, b3, b4, b5⟩ := h8 k q
    refine ⟨.inl b1, b2, fun e2 => ?_, b4, by omega⟩
    rcases hm' with rfl | ⟨_, q', e', hq'⟩
    · exact b3 e2
    · rw [e'] at e2; cases e2; omega
/-- A number is put behind what is to do. -/
theorem UnS.app (h : UnS J R bs S L ys tv W) (hst : ∀ ys It It' A B, J ys It A → Only It A B → (∀ k, It' k → It k ∨ A.heap.size ≤ k) → J ys It' B) (hn : L.length ≤ 1000000) (x : Int) : ∃ tv' W', (Builtin.append_ #[23, 23] 23 #[tv, .slice (some ⟨W.heap.size, 0, none⟩) 1 1]).run Try.prog (W.alloc (.cells #[.int .i64 x] 3)) = .ok tv' W' ∧ Hid (UnS J R bs S (L ++ [x]) ys tv' W' ∧ (∀ k, R k → W'.heap[k]? = W.heap[k]?) ∧ ∃ It, J ys It W ∧ ∀ k, ¬ It k → k < W.heap.size → W'.heap[k]? = W.heap[k]?) := by
  obtain ⟨It, om, h1, h2, h3, h4, h5, h6, h7, h8⟩ := h
  obtain ⟨v', W', hr, ho, hO, hv⟩ := app_at W tv L h6 hn x
  have hs := hO.size
  have hlm : ∀ q, om = some q → q < W.heap.size := fun q e => by subst e; exact h4.lt
  have hO2 : Only It W W' := hO.mono (fun k _ q => (h7 k q).1)
  refine ⟨v', W', hr, Hid.mk ⟨⟨fun k => It k ∨ v'.ownBlock = some k, om, hst ys It _ _ _ h1 hO2 (fun k q => q.elim .inl (fun e => (hv k e).elim (fun e => .inl (h7 k e).1) .inr)), ⟨.inl h2.1, by omega⟩, (hO.block bs h2.2 (fun q => (h7 bs q).2.1 rfl)).trans h3, h4.kept (fun q e => hO.block q (hlm q e) (fun r => (h7 q r).2.2 e)), fun q e => ⟨.inl (h5 q e).1, (h5 q e).2⟩, ho, fun q e => ⟨.inr e, ?_, fun e2 => ?_⟩, fun k q => ?_⟩, fun k q => hO.block k (h8 k q).2.2.2.2 (h8 k q).2.2.2.1, It, h1, fun k q1 q2 => hO2.block k q2 q1⟩⟩
  · rcases hv q e with e | e
    · exact (h7 q e).2.1
    · have := h2.2; omega
  · rcases hv q e with e | e
    · exact (h7 q e).2.2 e2
    · have := hlm q e2; omega
  · obtain ⟨b1, b2, b3, b4, b5⟩ := h8 k q
    exact ⟨.inl b1, b2, b3, fun e => (hv k e).elim b4 (fun e => by omega), by omega⟩
theorem st_uniq {om : Option Nat} {S' : List Int} (h : StAt W om S) (h' : StAt W om S') : S = S' := by
  refine rise_ext h.1.1 h'.1.1 (fun x => ?_)
  by_cases hx : (Lit.int .i64 x).wf = true
  · have a1 := h.look2 hx
    have a2 := h'.look2 hx
    rw [a1] at a2
    simp at a2
    exact a2
  · exact ⟨fun q => absurd (h.1.2 x q) hx, fun q => absurd (h'.1.2 x q) hx⟩
open Classical in
noncomputable def setSz (W : World) (bs : Nat) : Nat := if h : ∃ S om, W.heap[bs]? = some (.cells #[.map om] 64 (0, 0)) ∧ StAt W om S then h.choose.length else 0
theorem setSz_eq (h : UnS J R bs S L ys tv W) : setSz W bs = S.length := by
  obtain ⟨It, om, _, _, h3, h4, _⟩ := h
  have hex : ∃ S om, W.heap[bs]? = some (.cells #[.map om] 64 (0, 0)) ∧ StAt W om S := ⟨S, om, h3, h4⟩
  unfold setSz
  rw [dif_pos hex]
  obtain ⟨om', q1, q2⟩ := hex.choose_spec
  rw [h3] at q1
  cases q1
  rw [st_uniq q2 h4]
end
def lenV : Value → Nat
  | .slice _ n _ => n
  | _ => 0
theorem UnS.len {J : List Int → (Nat → Prop) → World → Prop} {R : Nat → Prop} {bs : Nat} {S L ys : List Int} {tv : Value} {W : World} (h : UnS J R bs S L ys tv W) : ∃ ao c, tv = .slice ao L.length c := by
  obtain ⟨It, om, _, _, _, _, _, h6, _⟩ := h
  obtain ⟨ao, c, e, _⟩ := owns_lat h6
  exact ⟨ao, c, e⟩
end Go.Proofs.Ythmbhcmicebcpaa
