/-
  A file of many names: its paths, where they lead, and its nodes anew (lists alone).
-/
import Derived.Test.YtbahbhaoimabdaaWkDeepL
import Derived.Test.YtbahbhaoimabdaaWkSim
namespace Go.Proofs.Ytbahbhaoimabdaa
open Go Go.Proofs Go.RowKit Go.Shelf

/-- The i-th letter. -/
def lS (i : Nat) : ByteArray := ⟨#[UInt8.ofNat (97 + i)]⟩
theorem lS_size (i : Nat) : (lS i).size = 1 := rfl
theorem lS_inj {i j : Nat} (hi : i < 20) (hj : j < 20) (h : lS i = lS j) : i = j := by
  have h1 : ofS (lS i) = ofS (lS j) := by rw [h]
  have h2 : UInt8.ofNat (97 + i) = UInt8.ofNat (97 + j) := by simpa [ofS, lS] using h1
  have h3 := congrArg UInt8.toNat h2
  simp at h3
  omega
/-- A file, and a directory with n names of it, each with a free slot behind. -/
structure LinkOk (n : Nat) (Nd : Nat → NoV) : Prop where
  file : (Nd 0).ino = 7 ∧ (Nd 0).kind = 1 ∧ (Nd 0).sn = 0
  root : (Nd 1).ino = 1 ∧ (Nd 1).kind = 2 ∧ (Nd 1).sn = n * 2
  name : ∀ i, i < n → (Nd 1).E (i * 2) = ⟨7, lS i⟩ ∧ (Nd 1).E (i * 2 + 1) = ⟨0, ⟨#[]⟩⟩
section
variable {n : Nat} {Nd : Nat → NoV}
theorem LinkOk.first1 (h : LinkOk n Nd) : firstN 2 Nd 1 = some 1 := range_hit (by omega) (by simp [h.root.1]) (fun j hj => by
  obtain rfl : j = 0 := by omega
  simp [h.file.1])
theorem LinkOk.first7 (h : LinkOk n Nd) : firstN 2 Nd 7 = some 0 := range_hit (by omega) (by simp [h.file.1]) (fun j hj => by omega)
theorem LinkOk.paths (h : LinkOk n Nd) : pathsS 2 Nd = (List.range n).map (fun i => catB ⟨#[]⟩ (lS i)) := by
  unfold pathsS
  rw [h.first1]
  dsimp only
  rw [if_pos h.root.2.1, intoS, h.root.2.2]
  have step : ∀ i, i ≤ n → slotS 2 Nd (intoS 2 Nd 500) ⟨#[]⟩ (Nd 1).E (goneF noG 1) (i * 2) = ((List.range i).map (fun i => catB ⟨#[]⟩ (lS i)), goneF noG 1) := by
    intro i
    induction i with
    | zero => intro _; rfl
    | succ i ih =>
      intro hi
      obtain ⟨e1, e2⟩ := h.name i (by omega)
      rw [show (i + 1) * 2 = i * 2 + 1 + 1 by omega, slotS, slotS, ih (by omega), e1, e2]
      have s1 : stepS 2 Nd (intoS 2 Nd 500) ⟨#[]⟩ ⟨7, lS i⟩ ((List.range i).map (fun i => catB ⟨#[]⟩ (lS i)), goneF noG 1) = ((List.range i).map (fun i => catB ⟨#[]⟩ (lS i)) ++ [catB ⟨#[]⟩ (lS i)], goneF noG 1) := by
        unfold stepS
        rw [if_neg (by rw [not_or]; exact ⟨by simp, by rw [lS_size]; decide⟩)]
        dsimp only
        rw [h.first7]
        dsimp only
        rw [if_neg (fun x => by have := h.file.2.1; omega)]
      rw [s1]
      unfold stepS
      rw [if_pos (.inl rfl), List.range_succ, List.map_append, List.map_singleton]
  rw [step n (Nat.le_refl n)]
theorem LinkOk.slot (h : LinkOk n Nd) (hn : n ≤ 20) {i : Nat} (hi : i < n) : slotN (Nd 1) (lS i) = some (i * 2) := by
  obtain ⟨e1, -⟩ := h.name i hi
  refine range_hit (by rw [h.root.2.2]; omega) (by rw [e1]; simp [slotB]) (fun j hj => ?_)
  obtain ⟨a, ha⟩ : ∃ a, j = a * 2 ∨ j = a * 2 + 1 := ⟨j / 2, by omega⟩
  rcases ha with rfl | rfl
  · rw [(h.name a (by omega)).1]
    have : ¬ lS a = lS i := fun e => by have := lS_inj (by omega) (by omega) e; omega
    simp [slotB, this]
  · rw [(h.name a (by omega)).2]
    simp [slotB]
theorem split_l : ∀ i, i < 20 → splitL (ofS (catB ⟨#[]⟩ (lS i))) = some [[UInt8.ofNat (97 + i)]] := by decide
theorem LinkOk.find (h : LinkOk n Nd) (hn : n ≤ 20) {i : Nat} (hi : i < n) : findS 2 Nd (catB ⟨#[]⟩ (lS i)) = (0, 0) := by
  unfold findS
  rw [split_l i (by omega)]
  dsimp only
  have p1 : placeS 2 Nd 1 = (1, 0) := by unfold placeS; rw [if_neg (by decide), h.first1]
  have p7 : placeS 2 Nd 7 = (0, 0) := by unfold placeS; rw [if_neg (by decide), h.first7]
  have hnm : namedS (Nd 1) (lS i) = 7 := by
    unfold namedS
    rw [h.slot hn hi]
    dsimp only
    rw [(h.name i hi).1]
  unfold findP
  rw [p1]
  show lastP (wayW 2 Nd (1, 0) [lS i]) = (0, 0)
  rw [wayW, if_neg (by simp), if_neg (fun x => x h.root.2.1)]
  dsimp only
  rw [hnm, p7]
  rfl
/-- The row of places behind some slots of the directory. -/
theorem LinkOk.row (h : LinkOk n Nd) (i : Nat) (hi : i ≤ n) : rowS 2 Nd (Nd 1).E [1] (i * 2) = if i = 0 then [1] else [1, 0] := by
  induction i with
  | zero => rfl
  | succ i ih =>
    obtain ⟨e1, e2⟩ := h.name i (by omega)
    rw [show (i + 1) * 2 = i * 2 + 1 + 1 by omega, rowS, rowS, ih (by omega), e1, e2]
    have l7 : leadS 2 Nd ⟨7, lS i⟩ = some 0 := by unfold leadS; rw [if_neg (by simp)]; exact h.first7
    have l0 : leadS 2 Nd ⟨0, ⟨#[]⟩⟩ = none := by unfold leadS; rw [if_pos rfl]
    unfold numStep
    rw [l7, l0]
    by_cases e : i = 0
    · subst e; rfl
    · rw [if_neg e]; rfl
theorem LinkOk.nums (h : LinkOk n Nd) {i : Nat} (hi : i < n) : (numE 2 Nd (Nd 1).E [1] (i * 2)).ino = 2 ∧ (numE 2 Nd (Nd 1).E [1] (i * 2 + 1)).ino = 0 := by
  obtain ⟨e1, e2⟩ := h.name i hi
  have l7 : leadS 2 Nd ⟨7, lS i⟩ = some 0 := by unfold leadS; rw [if_neg (by simp)]; exact h.first7
  have l0 : leadS 2 Nd ⟨0, ⟨#[]⟩⟩ = none := by unfold leadS; rw [if_pos rfl]
  have hr := h.row i (by omega)
  unfold numE
  rw [rowS, e1, e2, hr]
  unfold numStep
  rw [l7, l0]
  refine ⟨?_, rfl⟩
  by_cases e : i = 0
  · subst e; rfl
  · rw [if_neg e]; rfl
theorem LinkOk.ren (h : LinkOk n Nd) (hn : 1 ≤ n) {k : Nat} {K : Nat → NoV} (hK : IsRen 2 Nd k K) : k = 2 ∧ ((K 0).ino = 1 ∧ (K 0).kind = 2 ∧ (K 0).sn = n * 2 ∧ ∀ i, i < n → ((K 0).E (i * 2)).ino = 2 ∧ ((K 0).E (i * 2 + 1)).ino = 0) ∧ (K 1).ino = 2 ∧ (K 1).kind = 1 := by
  have r1 : rowN 2 Nd 1 1 = [1, 0] := by
    rw [rowN, if_pos (by simp [rowN])]
    show rowS 2 Nd (Nd 1).E [1] (Nd 1).sn = [1, 0]
    rw [h.root.2.2, h.row n (Nat.le_refl n), if_neg (by omega)]
  have r2 : rowN 2 Nd 1 2 = [1, 0] := by
    rw [rowN, r1, if_pos (by simp)]
    show rowS 2 Nd (Nd 0).E [1, 0] (Nd 0).sn = [1, 0]
    rw [h.file.2.2]
    rfl
  rcases hK with ⟨e, -⟩ | ⟨r, e, hk, hv⟩
  · rw [h.first1] at e; cases e
  · rw [h.first1] at e
    obtain rfl := Option.some.inj e
    have hk2 : k = 2 := rowN_fix hk (by rw [r2]; rfl)
    subst hk2
    have v0 := hv 0 (by omega)
    have v1 := hv 1 (by omega)
    have e0 : pN 2 Nd 1 0 = 1 := rfl
    have e1 : pN 2 Nd 1 1 = 0 := by unfold pN; rw [r1]; rfl
    have k0 : (K 0).kind = (Nd (pN 2 Nd 1 0)).kind := v0.kind
    have s0 : (K 0).sn = (Nd (pN 2 Nd 1 0)).sn := v0.sn
    have k1 : (K 1).kind = (Nd (pN 2 Nd 1 1)).kind := v1.kind
    rw [e0, h.root.2.1] at k0
    rw [e0, h.root.2.2] at s0
    rw [e1, h.file.2.1] at k1
    have hE : ∀ j, j < (K 0).sn → (K 0).E j = numE 2 Nd (Nd 1).E [1] j := fun j hj => v0.E j hj
    refine ⟨rfl, ⟨v0.ino, k0, s0, fun i hi => ?_⟩, v1.ino, k1⟩
    rw [hE (i * 2) (by omega), hE (i * 2 + 1) (by omega)]
    exact h.nums hi
end
end Go.Proofs.Ytbahbhaoimabdaa
