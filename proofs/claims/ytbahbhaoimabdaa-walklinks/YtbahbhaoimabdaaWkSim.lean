/-
  Nodes numbered anew: lists of nodes that name each other alike are numbered alike (numbers alone).
-/
import Derived.Test.YtbahbhaoimabdaaWkRen
namespace Go.Proofs.Ytbahbhaoimabdaa
open Go Go.Proofs Go.RowKit Go.Shelf

theorem SameV.symm {x y : NoV} (h : SameV x y) : SameV y x := ⟨h.ino.symm, h.kind.symm, h.links.symm, h.size.symm, h.sn.symm, h.bn.symm, fun k hk => (h.E k (by rw [h.sn]; exact hk)).symm, fun k hk => by
  obtain ⟨h1, h2, h3⟩ := h.P k (by rw [h.bn]; exact hk)
  exact ⟨h1.symm, h2.symm, h3.symm⟩⟩
theorem SameV.trans {x y z : NoV} (h : SameV x y) (g : SameV y z) : SameV x z := ⟨h.ino.trans g.ino, h.kind.trans g.kind, h.links.trans g.links, h.size.trans g.size, h.sn.trans g.sn, h.bn.trans g.bn, fun k hk => (h.E k hk).trans (g.E k (by rw [← h.sn]; exact hk)), fun k hk => by
  obtain ⟨h1, h2, h3⟩ := h.P k hk
  obtain ⟨g1, g2, g3⟩ := g.P k (by rw [← h.bn]; exact hk)
  exact ⟨h1.trans g1, h2.trans g2, h3.trans g3⟩⟩
theorem SameV.sameN {x y : NoV} (h : SameV x y) : sameN x y = true := by
  unfold Go.Proofs.Ytbahbhaoimabdaa.sameN
  have e1 : sameH x y = true := by simp [sameH, h.ino, h.kind, h.links, h.size, h.sn, h.bn]
  have e2 : rowB x.sn (fun k => sameE (x.E k) (y.E k)) = true := rowB_yes (fun k hk => by rw [h.E k hk]; simp [sameE])
  have e3 : rowB x.bn (fun k => sameP (x.P k) (y.P k)) = true := rowB_yes (fun k hk => by
    obtain ⟨h1, -, h3⟩ := h.P k hk
    simp [sameP, h1, h3])
  rw [e1, e2, e3]
  rfl
theorem sameL_same {n : Nat} {N M : Nat → NoV} (h : ∀ i, i < n → SameV (N i) (M i)) : sameL n N n M = true := sameL_yes (fun j hj => (h j hj).sameN)
/-- Lists that name each other alike, by places. -/
structure Sim (m : Nat) (N : Nat → NoV) (r m' : Nat) (N' : Nat → NoV) (r' : Nat) (σ : Nat → Nat) (S : Nat → Prop) : Prop where
  root : σ r = r'
  rootS : S r
  inj : ∀ a b, S a → S b → σ a = σ b → a = b
  kind : ∀ i, S i → (N' (σ i)).kind = (N i).kind
  links : ∀ i, S i → (N' (σ i)).links = (N i).links
  size : ∀ i, S i → (N' (σ i)).size = (N i).size
  sn : ∀ i, S i → (N' (σ i)).sn = (N i).sn
  bn : ∀ i, S i → (N' (σ i)).bn = (N i).bn
  P : ∀ i, S i → ∀ k, k < (N i).bn → ((N' (σ i)).P k).at' = ((N i).P k).at' ∧ ((N' (σ i)).P k).m = ((N i).P k).m ∧ ((N' (σ i)).P k).xs = ((N i).P k).xs
  lead : ∀ i j, S i → j < (N i).sn → leadS m' N' ((N' (σ i)).E j) = (leadS m N ((N i).E j)).map σ
  nm : ∀ i j t, S i → j < (N i).sn → leadS m N ((N i).E j) = some t → S t ∧ ((N' (σ i)).E j).nm = ((N i).E j).nm
section
variable {σ : Nat → Nat} {S : Nat → Prop}
theorem mem_map_inj (hinj : ∀ a b, S a → S b → σ a = σ b → a = b) {R : List Nat} (hR : ∀ x, x ∈ R → S x) {t : Nat} (ht : S t) : σ t ∈ R.map σ ↔ t ∈ R := by
  constructor
  · intro h
    obtain ⟨x, hx, e⟩ := List.mem_map.1 h
    rw [← hinj x t (hR x hx) ht e]
    exact hx
  · intro h
    exact List.mem_map.2 ⟨t, h, rfl⟩
theorem idxOf_map_inj (hinj : ∀ a b, S a → S b → σ a = σ b → a = b) {R : List Nat} (hR : ∀ x, x ∈ R → S x) {t : Nat} (ht : S t) : (R.map σ).idxOf (σ t) = R.idxOf t := by
  induction R with
  | nil => rfl
  | cons x R ih =>
    rw [List.map_cons, List.idxOf_cons, List.idxOf_cons, ih (fun y hy => hR y (by simp [hy]))]
    by_cases e : x = t
    · subst e; simp
    · have e2 : σ x ≠ σ t := fun h => e (hinj x t (hR x (by simp)) ht h)
      rw [beq_eq_false_iff_ne.2 e, beq_eq_false_iff_ne.2 e2]
theorem numT_map (hinj : ∀ a b, S a → S b → σ a = σ b → a = b) {R : List Nat} (hR : ∀ x, x ∈ R → S x) {o : Option Nat} {e e' : EnV} (ho : ∀ t, o = some t → S t ∧ e'.nm = e.nm) : (numT (R.map σ) e' (o.map σ)).1 = (numT R e o).1.map σ ∧ (numT (R.map σ) e' (o.map σ)).2 = (numT R e o).2 ∧ ∀ x, x ∈ (numT R e o).1 → S x := by
  cases o with
  | none => exact ⟨rfl, rfl, hR⟩
  | some t =>
    obtain ⟨ht, hn⟩ := ho t rfl
    have h1 := mem_map_inj hinj hR ht
    unfold numT
    dsimp only [Option.map]
    by_cases hm : t ∈ R
    · rw [if_pos hm, if_pos (h1.2 hm), idxOf_map_inj hinj hR ht, hn]
      exact ⟨rfl, rfl, hR⟩
    · rw [if_neg hm, if_neg (fun h => hm (h1.1 h)), hn]
      refine ⟨by simp, by simp, fun x hx => ?_⟩
      rcases List.mem_append.1 hx with h | h
      · exact hR x h
      · rw [List.mem_singleton.1 h]; exact ht
end
section
variable {m : Nat} {N : Nat → NoV} {r m' : Nat} {N' : Nat → NoV} {r' : Nat} {σ : Nat → Nat} {S : Nat → Prop}
theorem Sim.rowS (h : Sim m N r m' N' r' σ S) {i : Nat} (hi : S i) {R : List Nat} (hR : ∀ x, x ∈ R → S x) (k : Nat) (hk : k ≤ (N i).sn) : rowS m' N' (N' (σ i)).E (R.map σ) k = (rowS m N (N i).E R k).map σ ∧ ∀ x, x ∈ rowS m N (N i).E R k → S x := by
  induction k with
  | zero => exact ⟨rfl, hR⟩
  | succ k ih =>
    obtain ⟨e1, e2⟩ := ih (by omega)
    have h1 := numT_map h.inj e2 (o := leadS m N ((N i).E k)) (e := (N i).E k) (e' := (N' (σ i)).E k) (fun t ht => h.nm i k t hi (by omega) ht)
    rw [Go.Proofs.Ytbahbhaoimabdaa.rowS, Go.Proofs.Ytbahbhaoimabdaa.rowS, e1]
    unfold numStep
    rw [h.lead i k hi (by omega)]
    exact ⟨h1.1, h1.2.2⟩
theorem Sim.numE (h : Sim m N r m' N' r' σ S) {i : Nat} (hi : S i) {R : List Nat} (hR : ∀ x, x ∈ R → S x) (k : Nat) (hk : k < (N i).sn) : numE m' N' (N' (σ i)).E (R.map σ) k = numE m N (N i).E R k := by
  obtain ⟨e1, e2⟩ := h.rowS hi hR k (by omega)
  have h1 := numT_map h.inj e2 (o := leadS m N ((N i).E k)) (e := (N i).E k) (e' := (N' (σ i)).E k) (fun t ht => h.nm i k t hi hk ht)
  unfold Go.Proofs.Ytbahbhaoimabdaa.numE
  rw [e1]
  unfold numStep
  rw [h.lead i k hi hk]
  exact h1.2.1
theorem getD_map {R : List Nat} {a : Nat} (ha : a < R.length) : (R.map σ).getD a 0 = σ (R.getD a 0) := by
  simp [List.getD, ha]
theorem Sim.rowN (h : Sim m N r m' N' r' σ S) (a : Nat) : rowN m' N' r' a = (rowN m N r a).map σ ∧ ∀ x, x ∈ rowN m N r a → S x := by
  induction a with
  | zero =>
    refine ⟨?_, fun x hx => ?_⟩
    · show [r'] = [r].map σ
      rw [List.map_singleton, h.root]
    · have : x = r := by simpa [Go.Proofs.Ytbahbhaoimabdaa.rowN] using hx
      rw [this]; exact h.rootS
  | succ a ih =>
    obtain ⟨e1, e2⟩ := ih
    rw [Go.Proofs.Ytbahbhaoimabdaa.rowN, Go.Proofs.Ytbahbhaoimabdaa.rowN, e1, List.length_map]
    by_cases ha : a < (Go.Proofs.Ytbahbhaoimabdaa.rowN m N r a).length
    · rw [if_pos ha, if_pos ha, getD_map ha]
      have hp : S ((Go.Proofs.Ytbahbhaoimabdaa.rowN m N r a).getD a 0) := e2 _ (by
        have h1 : (Go.Proofs.Ytbahbhaoimabdaa.rowN m N r a).getD a 0 = (Go.Proofs.Ytbahbhaoimabdaa.rowN m N r a)[a] := (List.getElem_eq_getD 0).symm
        rw [h1]
        exact List.getElem_mem _)
      rw [h.sn _ hp]
      exact h.rowS hp e2 _ (Nat.le_refl _)
    · rw [if_neg ha, if_neg ha]
      exact ⟨rfl, e2⟩
theorem Sim.pN (h : Sim m N r m' N' r' σ S) {i : Nat} (hi : i < (Go.Proofs.Ytbahbhaoimabdaa.rowN m N r i).length) : pN m' N' r' i = σ (pN m N r i) ∧ S (pN m N r i) := by
  obtain ⟨e1, e2⟩ := h.rowN i
  refine ⟨?_, e2 _ ?_⟩
  · unfold Go.Proofs.Ytbahbhaoimabdaa.pN
    rw [e1, getD_map hi]
  · unfold Go.Proofs.Ytbahbhaoimabdaa.pN
    have h1 : (Go.Proofs.Ytbahbhaoimabdaa.rowN m N r i).getD i 0 = (Go.Proofs.Ytbahbhaoimabdaa.rowN m N r i)[i] := (List.getElem_eq_getD 0).symm
    rw [h1]
    exact List.getElem_mem _
theorem Sim.outN (h : Sim m N r m' N' r' σ S) {i : Nat} (hi : i < (Go.Proofs.Ytbahbhaoimabdaa.rowN m N r i).length) : SameV (outN m' N' r' i) (outN m N r i) := by
  obtain ⟨e1, e2⟩ := h.pN hi
  obtain ⟨e3, e4⟩ := h.rowN i
  unfold Go.Proofs.Ytbahbhaoimabdaa.outN
  rw [e1, e3]
  exact ⟨rfl, h.kind _ e2, h.links _ e2, h.size _ e2, h.sn _ e2, h.bn _ e2, fun k hk => h.numE e2 e4 k (by have := h.sn _ e2; have hk' : k < (N' (σ (Go.Proofs.Ytbahbhaoimabdaa.pN m N r i))).sn := hk; omega), fun k hk => h.P _ e2 k (by have := h.bn _ e2; have hk' : k < (N' (σ (Go.Proofs.Ytbahbhaoimabdaa.pN m N r i))).bn := hk; omega)⟩
end
/-- The nodes of Nd that are reached, numbered anew. -/
def IsRen (m : Nat) (Nd : Nat → NoV) (k : Nat) (K : Nat → NoV) : Prop := (firstN m Nd 1 = none ∧ k = 0) ∨ ∃ r, firstN m Nd 1 = some r ∧ k = (rowN m Nd r k).length ∧ ∀ i, i < k → SameV (K i) (outN m Nd r i)
theorem rowN_fix {m : Nat} {Nd : Nat → NoV} {r k k' : Nat} (h : k = (rowN m Nd r k).length) (h' : k' = (rowN m Nd r k').length) : k = k' := by
  rcases Nat.le_total k k' with e | e
  · have h1 := rowN_done (m := m) (Nd := Nd) (r := r) (a := k) (by omega) k' e
    rw [h1] at h'
    omega
  · have h1 := rowN_done (m := m) (Nd := Nd) (r := r) (a := k') (by omega) k e
    rw [h1] at h
    omega
theorem rowN_below {m : Nat} {Nd : Nat → NoV} {r k i : Nat} (h : k = (rowN m Nd r k).length) (hi : i < k) : i < (rowN m Nd r i).length := by
  rcases Nat.lt_or_ge i (rowN m Nd r i).length with e | e
  · exact e
  · have h1 := rowN_done (m := m) (Nd := Nd) (r := r) (a := i) e k (by omega)
    rw [h1] at h
    omega
theorem Sim.ren {m : Nat} {N : Nat → NoV} {r m' : Nat} {N' : Nat → NoV} {r' : Nat} {σ : Nat → Nat} {S : Nat → Prop} (h : Sim m N r m' N' r' σ S) (hr : firstN m N 1 = some r) (hr' : firstN m' N' 1 = some r') {k k' : Nat} {K K' : Nat → NoV} (hK : IsRen m N k K) (hK' : IsRen m' N' k' K') : k = k' ∧ ∀ i, i < k → SameV (K i) (K' i) := by
  rcases hK with ⟨e, -⟩ | ⟨r1, e, hk, hv⟩
  · rw [hr] at e; cases e
  rcases hK' with ⟨e', -⟩ | ⟨r1', e', hk', hv'⟩
  · rw [hr'] at e'; cases e'
  rw [hr] at e; cases e
  rw [hr'] at e'; cases e'
  have e2 : (Go.Proofs.Ytbahbhaoimabdaa.rowN m' N' r' k').length = (Go.Proofs.Ytbahbhaoimabdaa.rowN m N r k').length := by rw [(h.rowN k').1, List.length_map]
  rw [e2] at hk'
  have hkk := rowN_fix hk hk'
  refine ⟨hkk, fun i hi => ?_⟩
  exact (hv i hi).trans ((h.outN (rowN_below hk hi)).symm.trans (hv' i (by omega)).symm)
theorem lead_same {m : Nat} {N M : Nat → NoV} (h : ∀ i, i < m → (N i).ino = (M i).ino) (e : EnV) : leadS m N e = leadS m M e := by
  unfold leadS
  rw [first_same h]
/-- Nodes of the same values. -/
theorem Sim.same {m : Nat} {N M : Nat → NoV} {r : Nat} (hr : r < m) (h : ∀ i, i < m → SameV (M i) (N i)) : Sim m N r m M r id (fun i => i < m) := by
  refine ⟨rfl, hr, fun _ _ _ _ e => e, fun i hi => (h i hi).kind, fun i hi => (h i hi).links, fun i hi => (h i hi).size, fun i hi => (h i hi).sn, fun i hi => (h i hi).bn, fun i hi k hk => (h i hi).P k (by rw [(h i hi).bn]; exact hk), fun i j hi hj => ?_, fun i j t hi hj ht => ⟨lead_lt t ht, ?_⟩⟩
  · show leadS m M ((M i).E j) = _
    rw [(h i hi).E j (by rw [(h i hi).sn]; exact hj), lead_same (fun i hi => (h i hi).ino)]
    cases leadS m N ((N i).E j) <;> rfl
  · show ((M i).E j).nm = _
    rw [(h i hi).E j (by rw [(h i hi).sn]; exact hj)]
/-- What nodes of the same values are anew. -/
theorem IsRen.same {m : Nat} {N M : Nat → NoV} (h : ∀ i, i < m → SameV (M i) (N i)) {k k' : Nat} {K K' : Nat → NoV} (hK : IsRen m N k K) (hK' : IsRen m M k' K') : k = k' ∧ ∀ i, i < k → SameV (K i) (K' i) := by
  have hf : firstN m M 1 = firstN m N 1 := first_same (fun i hi => (h i hi).ino) 1
  rcases hK with ⟨e, rfl⟩ | ⟨r, e, hk, hv⟩
  · rcases hK' with ⟨e', rfl⟩ | ⟨r1', e', hk', hv'⟩
    · exact ⟨rfl, fun i hi => absurd hi (Nat.not_lt_zero i)⟩
    · rw [hf, e] at e'; cases e'
  · exact (Sim.same (firstN_some e).1 h).ren e (by rw [hf, e]) (.inr ⟨r, e, hk, hv⟩) hK'
theorem numE_lead {m : Nat} {Nd : Nat → NoV} {E : Nat → EnV} {R F : List Nat} {k : Nat} (hR : rowS m Nd E R (k + 1) <+: F) : (leadS m Nd (E k) = none → numE m Nd E R k = enZ) ∧ ∀ t, leadS m Nd (E k) = some t → t ∈ F ∧ numE m Nd E R k = ⟨((F.idxOf t : Nat) : Int) + 1, (E k).nm⟩ := by
  refine ⟨fun h => (numE_none h).1, fun t h => ?_⟩
  by_cases ht : t ∈ rowS m Nd E R k
  · obtain ⟨n1, n2⟩ := numE_old h ht
    rw [n2] at hR
    exact ⟨hR.subset ht, by rw [n1, prefix_idxOf hR ht]⟩
  · obtain ⟨n1, n2⟩ := numE_new h ht
    rw [n2] at hR
    have h1 : t ∈ rowS m Nd E R k ++ [t] := by simp
    refine ⟨hR.subset h1, ?_⟩
    rw [n1, prefix_idxOf hR h1, List.idxOf_append, if_neg ht]
    simp
theorem find_range (k a : Nat) (ha : a < k) {p : Nat → Bool} (hp : p a = true) (hn : ∀ j, j < a → p j = false) : (List.range k).find? p = some a := by
  rw [List.find?_eq_some_iff_getElem]
  refine ⟨hp, a, by simpa using ha, by simp, fun j hj => ?_⟩
  simp [hn j hj]
/-- What is numbered is found by its number. -/
theorem ren_first {k : Nat} {K : Nat → NoV} (h : ∀ i, i < k → (K i).ino = (i : Int) + 1) (a : Nat) (ha : a < k) : firstN k K ((a : Int) + 1) = some a := by
  unfold firstN
  refine find_range k a ha (by simp [h a ha]) (fun j hj => ?_)
  have := h j (by omega)
  simp only [this, decide_eq_false_iff_not]
  omega
theorem ren_zero {k : Nat} {K : Nat → NoV} {e : EnV} (h : e.ino = 0) : leadS k K e = none := by
  unfold leadS
  rw [if_pos h]
theorem rowN_slots {m : Nat} {Nd : Nat → NoV} {r k i : Nat} (hr : r < m) (hk : k = (rowN m Nd r k).length) (hi : i < k) {j : Nat} (hj : j < (Nd (pN m Nd r i)).sn) : rowS m Nd (Nd (pN m Nd r i)).E (rowN m Nd r i) (j + 1) <+: rowN m Nd r k := by
  have h1 := rowN_next (rowN_below hk hi)
  have h2 := rowN_le (Nd := Nd) hr (show i + 1 ≤ k by omega)
  rw [h1] at h2
  refine List.IsPrefix.trans ?_ h2
  have hS : ∀ (R : List Nat), RowOk m R → ∀ a b : Nat, a ≤ b → rowS m Nd (Nd (pN m Nd r i)).E R a <+: rowS m Nd (Nd (pN m Nd r i)).E R b := fun R hR a b hab => by
    induction b with
    | zero => obtain rfl : a = 0 := by omega
              exact List.prefix_refl _
    | succ b ih =>
      by_cases e : a = b + 1
      · subst e; exact List.prefix_refl _
      · refine (ih (by omega)).trans ?_
        exact (numT_row (e := (Nd (pN m Nd r i)).E b) (rowS_ok (Nd := Nd) (E := (Nd (pN m Nd r i)).E) hR b).1 (lead_lt (Nd := Nd) (e := (Nd (pN m Nd r i)).E b))).2
  exact hS _ (rowN_ok hr i) _ _ (by omega)
/-- What is numbered anew stays so. -/
theorem IsRen.again {m : Nat} {Nd : Nat → NoV} {k k' : Nat} {K K' : Nat → NoV} (hK : IsRen m Nd k K) (hK' : IsRen k K k' K') : k = k' ∧ ∀ i, i < k → SameV (K i) (K' i) := by
  rcases hK with ⟨e, rfl⟩ | ⟨r, e, hk, hv⟩
  · rcases hK' with ⟨-, rfl⟩ | ⟨r', e', -⟩
    · exact ⟨rfl, fun i hi => absurd hi (Nat.not_lt_zero i)⟩
    · exact absurd (firstN_some e').1 (Nat.not_lt_zero _)
  · have hr := (firstN_some e).1
    have hk0 : 0 < k := by have := rowN_pos (Nd := Nd) hr k; omega
    have hino : ∀ i, i < k → (K i).ino = (i : Int) + 1 := fun i hi => (hv i hi).ino
    have hF := rowN_ok (Nd := Nd) hr k
    have hp : ∀ i, i < k → pN m Nd r i = (rowN m Nd r k).getD i 0 := fun i hi => (pN_at hr (Nat.le_of_lt hi) (rowN_below hk hi)).symm
    have hix : ∀ t, t ∈ rowN m Nd r k → (rowN m Nd r k).idxOf t < k ∧ pN m Nd r ((rowN m Nd r k).idxOf t) = t := fun t ht => by
      have h1 := List.idxOf_lt_length_of_mem ht
      have h2 : (rowN m Nd r k).idxOf t < k := by omega
      refine ⟨h2, ?_⟩
      rw [hp _ h2, List.getD, List.getElem?_eq_getElem h1]
      simp
    have hsim : Sim m Nd r k K 0 (fun t => (rowN m Nd r k).idxOf t) (fun t => t ∈ rowN m Nd r k) := by
      have hV : ∀ t, t ∈ rowN m Nd r k → SameV (K ((rowN m Nd r k).idxOf t)) { Nd t with ino := (((rowN m Nd r k).idxOf t : Nat) : Int) + 1, E := numE m Nd (Nd t).E (rowN m Nd r ((rowN m Nd r k).idxOf t)) } := fun t ht => by
        obtain ⟨h1, h2⟩ := hix t ht
        have h3 := hv _ h1
        unfold outN at h3
        rw [h2] at h3
        exact h3
      have hE : ∀ t j, t ∈ rowN m Nd r k → j < (Nd t).sn → (leadS m Nd ((Nd t).E j) = none → (K ((rowN m Nd r k).idxOf t)).E j = enZ) ∧ ∀ s, leadS m Nd ((Nd t).E j) = some s → s ∈ rowN m Nd r k ∧ (K ((rowN m Nd r k).idxOf t)).E j = ⟨(((rowN m Nd r k).idxOf s : Nat) : Int) + 1, ((Nd t).E j).nm⟩ := fun t j ht hj => by
        obtain ⟨h1, h2⟩ := hix t ht
        have h3 := (hV t ht).E j (by rw [(hV t ht).sn]; exact hj)
        have h4 := rowN_slots hr hk h1 (j := j) (by rw [h2]; exact hj)
        rw [h2] at h4
        have h5 := numE_lead h4
        rw [h3]
        exact h5
      have h0 : rowN m Nd r 0 <+: rowN m Nd r k := rowN_le hr (Nat.zero_le _)
      have hr0 : r ∈ rowN m Nd r k := h0.subset (by simp [rowN])
      refine ⟨?_, hr0, fun a b ha hb h => ?_, fun i hi => (hV i hi).kind, fun i hi => (hV i hi).links, fun i hi => (hV i hi).size, fun i hi => (hV i hi).sn, fun i hi => (hV i hi).bn, fun i hi j hj => (hV i hi).P j (by rw [(hV i hi).bn]; exact hj), fun i j hi hj => ?_, fun i j t hi hj ht => ?_⟩
      · show (rowN m Nd r k).idxOf r = 0
        rw [prefix_idxOf h0 (by simp [rowN])]
        simp [rowN]
      · have h1 := (hix a ha).2
        have h2 := (hix b hb).2
        rw [h] at h1
        exact h1.symm.trans h2
      · cases hl : leadS m Nd ((Nd i).E j) with
        | none => rw [(hE i j hi hj).1 hl]; exact ren_zero rfl
        | some s =>
          obtain ⟨h1, h2⟩ := (hE i j hi hj).2 s hl
          rw [h2]
          unfold leadS
          rw [if_neg (by dsimp only; omega)]
          exact ren_first hino _ (hix s h1).1
      · obtain ⟨h1, h2⟩ := (hE i j hi hj).2 t ht
        exact ⟨h1, by rw [h2]⟩
    have h1 : firstN k K 1 = some 0 := by have := ren_first hino 0 hk0; simpa using this
    obtain ⟨h2, h3⟩ := hsim.ren e h1 (.inr ⟨r, e, hk, hv⟩) hK'
    exact ⟨h2, h3⟩
end Go.Proofs.Ytbahbhaoimabdaa
