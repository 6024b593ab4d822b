/-
  Nodes turned, with other numbers: they are numbered anew the same (numbers alone).
-/
import Derived.Test.YtbahbhaoimabdaaWkSim
namespace Go.Proofs.Ytbahbhaoimabdaa
open Go Go.Proofs Go.RowKit Go.Shelf

/-- A number moved. -/
def tf (add x : Int) : Int := if 1 < x then x + add else x
theorem tf_inj {add x y : Int} (ha : 1 ≤ add) (hx : 0 ≤ x) (hy : 0 ≤ y) (h : tf add x = tf add y) : x = y := by
  unfold tf at h
  split at h <;> split at h <;> omega
theorem tf_zero {add x : Int} (ha : 1 ≤ add) : tf add x = 0 ↔ x = 0 := by
  unfold tf
  split <;> omega
/-- A slot and a node with other numbers. -/
def tE (add : Int) (e : EnV) : EnV := ⟨tf add e.ino, e.nm⟩
def tN (add : Int) (x : NoV) : NoV := { x with ino := tf add x.ino, E := fun k => tE add (x.E k) }
/-- The place that a turned row has at i, and where a place is in it. -/
def turnP (n b i : Nat) : Nat := if i + b < n then i + b else i + b - n
def turnQ (n b j : Nat) : Nat := if b ≤ j then j - b else j + n - b
theorem turnP_lt {n b i : Nat} (hb : b < n) (hi : i < n) : turnP n b i < n := by unfold turnP; split <;> omega
theorem turnQ_lt {n b j : Nat} (hb : b < n) (hj : j < n) : turnQ n b j < n := by unfold turnQ; split <;> omega
theorem turnPQ {n b j : Nat} (hb : b < n) (hj : j < n) : turnP n b (turnQ n b j) = j := by
  unfold turnP turnQ
  split <;> split <;> omega
theorem turnQP {n b i : Nat} (hb : b < n) (hi : i < n) : turnQ n b (turnP n b i) = i := by
  unfold turnP turnQ
  split <;> split <;> omega
/-- Nodes with numbers of their own. -/
structure TurnOk (n : Nat) (N : Nat → NoV) : Prop where
  ino : ∀ i, i < n → 1 ≤ (N i).ino ∧ (N i).ino ≤ 1000000 ∧ firstN n N (N i).ino = some i
  slot : ∀ i, i < n → ∀ k, k < (N i).sn → ((N i).E k).ino = 0 ∨ 1 ≤ ((N i).E k).ino ∧ ((N i).E k).ino ≤ 1000000
theorem firstN_none {n : Nat} {N : Nat → NoV} {x : Int} (h : firstN n N x = none) : ∀ i, i < n → (N i).ino ≠ x := fun i hi => by
  unfold firstN at h
  have h1 := List.find?_eq_none.1 h i (List.mem_range.2 hi)
  simpa using h1
theorem firstN_no {n : Nat} {N : Nat → NoV} {x : Int} (h : ∀ i, i < n → (N i).ino ≠ x) : firstN n N x = none := by
  unfold firstN
  rw [List.find?_eq_none]
  intro i hi
  simpa using h i (List.mem_range.1 hi)
section
variable {n b : Nat} {add : Int} {N M : Nat → NoV}
theorem turn_first (h : TurnOk n N) (ha : 1 ≤ add) (hb : b < n) (hM : ∀ i, i < n → SameV (M i) (tN add (N (turnP n b i)))) {x : Int} (hx : 0 ≤ x) : firstN n M (tf add x) = (firstN n N x).map (turnQ n b) := by
  have hi : ∀ i, i < n → (M i).ino = tf add (N (turnP n b i)).ino := fun i hi => (hM i hi).ino
  cases hq : firstN n N x with
  | none =>
    refine firstN_no (fun i hin e => ?_)
    rw [hi i hin] at e
    have hp := turnP_lt hb hin
    have h1 := (h.ino _ hp).1
    exact firstN_none hq _ hp (tf_inj ha (by omega) hx e)
  | some t =>
    obtain ⟨ht, e⟩ := firstN_some hq
    have hl := turnQ_lt hb ht
    show firstN n M (tf add x) = some (turnQ n b t)
    unfold firstN
    refine find_range n _ hl ?_ (fun j hj => ?_)
    · have h1 := hi _ hl
      rw [turnPQ hb ht, e] at h1
      simpa using h1
    · have hjn : j < n := by omega
      have h1 := hi j hjn
      have hp := turnP_lt hb hjn
      have h3 := h.ino _ hp
      simp only [decide_eq_false_iff_not]
      intro e2
      rw [h1] at e2
      have h2 := tf_inj ha (by omega) hx e2
      rw [h2, hq] at h3
      have h4 := Option.some.inj h3.2.2
      have h5 := turnQP hb hjn
      rw [← h4] at h5
      omega
theorem turn_sim (h : TurnOk n N) (ha : 1 ≤ add) (hb : b < n) (hM : ∀ i, i < n → SameV (M i) (tN add (N (turnP n b i)))) {r : Nat} (hr : r < n) : Sim n N r n M (turnQ n b r) (turnQ n b) (fun i => i < n) := by
  have hv : ∀ i, i < n → SameV (M (turnQ n b i)) (tN add (N i)) := fun i hi => by
    have h1 := hM _ (turnQ_lt hb hi)
    rw [turnPQ hb hi] at h1
    exact h1
  have hE : ∀ i j, i < n → j < (N i).sn → (M (turnQ n b i)).E j = tE add ((N i).E j) := fun i j hi hj => (hv i hi).E j (by rw [(hv i hi).sn]; exact hj)
  refine ⟨rfl, hr, fun x y hx hy e => by rw [← turnPQ hb hx, e, turnPQ hb hy], fun i hi => (hv i hi).kind, fun i hi => (hv i hi).links, fun i hi => (hv i hi).size, fun i hi => (hv i hi).sn, fun i hi => (hv i hi).bn, fun i hi k hk => (hv i hi).P k (by rw [(hv i hi).bn]; exact hk), fun i j hi hj => ?_, fun i j t hi hj ht => ⟨lead_lt t ht, ?_⟩⟩
  · rw [hE i j hi hj]
    have h0 := h.slot i hi j hj
    generalize (N i).E j = e at h0 ⊢
    have h1 : 0 ≤ e.ino := by omega
    unfold leadS tE
    by_cases h2 : e.ino = 0
    · rw [if_pos h2, if_pos ((tf_zero ha).2 h2)]; rfl
    · rw [if_neg h2, if_neg (fun h3 => h2 ((tf_zero ha).1 h3))]
      exact turn_first h ha hb hM h1
  · rw [hE i j hi hj]; rfl
/-- What a turned row is anew. -/
theorem turned_same (h : TurnOk n N) (ha : 1 ≤ add) (hb : n = 0 ∨ b < n) (hM : ∀ i, i < n → SameV (M i) (tN add (N (turnP n b i)))) {k k' : Nat} {K K' : Nat → NoV} (hK : IsRen n N k K) (hK' : IsRen n M k' K') : k = k' ∧ ∀ i, i < k → SameV (K i) (K' i) := by
  rcases hb with rfl | hb
  · rcases hK with ⟨-, rfl⟩ | ⟨r, e, -, -⟩
    · rcases hK' with ⟨-, rfl⟩ | ⟨r, e, -, -⟩
      · exact ⟨rfl, fun i hi => absurd hi (Nat.not_lt_zero i)⟩
      · exact absurd (firstN_some e).1 (Nat.not_lt_zero r)
    · exact absurd (firstN_some e).1 (Nat.not_lt_zero r)
  · have h1 : firstN n M 1 = (firstN n N 1).map (turnQ n b) := turn_first h ha hb hM (x := 1) (by omega)
    cases hq : firstN n N 1 with
    | none =>
      rw [hq] at h1
      rcases hK with ⟨-, rfl⟩ | ⟨r, e, -, -⟩
      · rcases hK' with ⟨-, rfl⟩ | ⟨r, e, -, -⟩
        · exact ⟨rfl, fun i hi => absurd hi (Nat.not_lt_zero i)⟩
        · rw [h1] at e; cases e
      · rw [hq] at e; cases e
    | some r =>
      rw [hq] at h1
      exact (turn_sim h ha hb hM (firstN_some hq).1).ren hq h1 hK hK'
end
end Go.Proofs.Ytbahbhaoimabdaa
