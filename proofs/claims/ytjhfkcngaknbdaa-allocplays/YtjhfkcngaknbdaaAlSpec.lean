/-
  Which things are taken, as numbers alone.
-/
import Derived.Test.YtjhfkcngaknbdaaBtRef
import Derived.Test.YtjhfkcngaknbdaaSupMask
namespace Go.Proofs.Ytjhfkcngaknbdaa
open Go Go.Proofs Go.RowKit Go.Shelf

/-- The first free thing from one on, round. -/
def nextN (t : Nat → Bool) (N base : Nat) : Option Nat := ((List.range N).find? (fun j => !t ((base + j) % N))).map (fun j => (base + j) % N)
/-- The group from which on it is looked. -/
def grpOf (G : Nat) (group : Int) : Nat := if 0 ≤ group ∧ group < G then group.toNat else 0
def updT (t : Nat → Bool) (n : Nat) (on : Bool) : Nat → Bool := fun m => if m = n then on else t m
def updO (t : Nat → Bool) (r : Option Nat) : Nat → Bool := match r with
  | some n => updT t n true
  | none => t
def freeN (t : Nat → Bool) (N : Nat) : Nat := (List.range N).countP (fun n => !t n)
/-- A row of bits is group k's. -/
def RowIs (L S : Nat) (t : Nat → Bool) (k : Nat) (xs : List Int) : Prop := xs.length = L ∧ (∀ x ∈ xs, 0 ≤ x ∧ x ≤ 255) ∧ ∀ i, getN xs i = (decide (i < S) && t (k * S + i))

theorem find_range_some {p : Nat → Bool} {N J : Nat} (hJ : J < N) (hb : ∀ j, j < J → p j = false) (hp : p J = true) : (List.range N).find? p = some J := by
  have e : N = J + (1 + (N - J - 1)) := by omega
  rw [e, List.range_eq_range', ← List.range'_append_1, List.find?_append, ← List.range_eq_range']
  have h1 : (List.range J).find? p = none := by
    rw [List.find?_eq_none]
    intro q hq
    rw [hb q (List.mem_range.1 hq)]
    simp
  rw [h1]
  simp [hp, Nat.add_comm 1]
  intro j h1 h2
  omega
theorem find_range_none {p : Nat → Bool} {N : Nat} (hb : ∀ j, j < N → p j = false) : (List.range N).find? p = none := by
  rw [List.find?_eq_none]
  intro q hq
  rw [hb q (List.mem_range.1 hq)]
  simp
theorem next_some {t : Nat → Bool} {N base J : Nat} (hJ : J < N) (hb : ∀ j, j < J → t ((base + j) % N) = true) (hp : t ((base + J) % N) = false) : nextN t N base = some ((base + J) % N) := by
  unfold nextN
  rw [find_range_some hJ (fun j hj => by simp [hb j hj]) (by simp [hp])]
  rfl
theorem next_none {t : Nat → Bool} {N base : Nat} (hb : ∀ j, j < N → t ((base + j) % N) = true) : nextN t N base = none := by
  unfold nextN
  rw [find_range_none (fun j hj => by simp [hb j hj])]
  rfl
/-- What is found is free, and one of them. -/
theorem next_is {t : Nat → Bool} {N base n : Nat} (h : nextN t N base = some n) : n < N ∧ t n = false := by
  unfold nextN at h
  cases hf : (List.range N).find? (fun j => !t ((base + j) % N)) with
  | none => rw [hf] at h; cases h
  | some j =>
    rw [hf] at h
    obtain rfl : (base + j) % N = n := by simpa using h
    have hj := List.mem_range.1 (List.mem_of_find?_eq_some hf)
    refine ⟨Nat.mod_lt _ (by omega), ?_⟩
    have := List.find?_some hf
    simpa using this
theorem next_not {t : Nat → Bool} {N base : Nat} (h : nextN t N base = none) : ∀ n, n < N → t n = true := by
  intro n hn
  unfold nextN at h
  have hf : (List.range N).find? (fun j => !t ((base + j) % N)) = none := by simpa using h
  rw [List.find?_eq_none] at hf
  have hj : (n + (N - base % N)) % N < N := Nat.mod_lt _ (by omega)
  have h1 := hf _ (List.mem_range.2 hj)
  have e : (base + (n + (N - base % N)) % N) % N = n := by
    have hlt := Nat.mod_lt base (show 0 < N by omega)
    have hd := Nat.div_add_mod base N
    rw [Nat.add_mod_mod]
    have : base + (n + (N - base % N)) = n + N * (base / N + 1) := by
      rw [Nat.mul_add, Nat.mul_one]; omega
    rw [this, Nat.add_mul_mod_self_left]
    exact Nat.mod_eq_of_lt hn
  rw [e] at h1
  simpa using h1
/-- The things of a group, seen from a group on. -/
theorem rot (g0 q i G S : Nat) (_ : 0 < G) (hi : i < S) : (g0 * S + (q * S + i)) % (G * S) = (g0 + q) % G * S + i := by
  have e : g0 * S + (q * S + i) = i + S * (g0 + q) := by
    rw [Nat.mul_comm S, Nat.add_mul]; omega
  rw [e, Nat.mul_comm G S, Nat.mod_mul, Nat.add_mul_mod_self_left, Nat.mod_eq_of_lt hi, Nat.add_mul_div_left _ _ (by omega), Nat.div_eq_of_lt hi, Nat.zero_add]
  rw [Nat.mul_comm S]
  omega
theorem split_at {j S : Nat} (_ : 0 < S) : j = j / S * S + j % S := by
  have := Nat.div_add_mod j S
  rw [Nat.mul_comm] at this
  omega
theorem mul_lt_of {k i G S : Nat} (hk : k < G) (hi : i < S) : k * S + i < G * S := by
  have := Nat.mul_le_mul_right S hk
  rw [Nat.succ_mul] at this
  omega
/-- All of the groups so far are taken. -/
def AllT (t : Nat → Bool) (G S g0 q : Nat) : Prop := ∀ p i, p < q → i < S → t ((g0 + p) % G * S + i) = true
theorem allT_zero (t : Nat → Bool) (G S g0 : Nat) : AllT t G S g0 0 := fun _ _ h => by omega
theorem allT_step {t : Nat → Bool} {G S g0 q : Nat} (h : AllT t G S g0 q) (hq : ∀ i, i < S → t ((g0 + q) % G * S + i) = true) : AllT t G S g0 (q + 1) := by
  intro p i hp hi
  rcases Nat.lt_succ_iff_lt_or_eq.1 hp with h' | rfl
  · exact h p i h' hi
  · exact hq i hi
theorem allT_at {t : Nat → Bool} {G S g0 q : Nat} (hG : 0 < G) (hS : 0 < S) (h : AllT t G S g0 q) (j : Nat) (hj : j < q * S) : t ((g0 * S + j) % (G * S)) = true := by
  have hd : j / S < q := Nat.div_lt_of_lt_mul (by rw [Nat.mul_comm]; exact hj)
  have hm := Nat.mod_lt j hS
  rw [split_at (j := j) hS, rot g0 (j / S) (j % S) G S hG hm]
  exact h _ _ hd hm
theorem next_of_all {t : Nat → Bool} {G S g0 : Nat} (h : AllT t G S g0 G) : nextN t (G * S) (g0 * S) = none := by
  refine next_none (fun j hj => ?_)
  rcases Nat.eq_zero_or_pos G with rfl | hG
  · simp at hj
  rcases Nat.eq_zero_or_pos S with rfl | hS
  · simp at hj
  exact allT_at hG hS h j hj
theorem next_of_at {t : Nat → Bool} {G S g0 q i : Nat} (hq : q < G) (h : AllT t G S g0 q) (hi : i < S) (hb : ∀ j, j < i → t ((g0 + q) % G * S + j) = true) (hp : t ((g0 + q) % G * S + i) = false) : nextN t (G * S) (g0 * S) = some ((g0 + q) % G * S + i) := by
  have hG : 0 < G := by omega
  have hS : 0 < S := by omega
  have := next_some (t := t) (N := G * S) (base := g0 * S) (J := q * S + i) (mul_lt_of hq hi) (fun j hj => ?_) (by rw [rot g0 q i G S hG hi]; exact hp)
  · rw [rot g0 q i G S hG hi] at this; exact this
  · rcases Nat.lt_or_ge j (q * S) with h' | h'
    · exact allT_at hG hS h j h'
    · obtain ⟨r, rfl⟩ : ∃ r, j = q * S + r := ⟨j - q * S, by omega⟩
      rw [rot g0 q r G S hG (by omega)]
      exact hb r (by omega)
theorem find_congr {p q : Nat → Bool} : ∀ l : List Nat, (∀ x ∈ l, p x = q x) → l.find? p = l.find? q
  | [], _ => rfl
  | x :: l, h => by
    rw [List.find?_cons, List.find?_cons, h x (by simp), find_congr l (fun y hy => h y (by simp [hy]))]
theorem RowIs.fst {L S k : Nat} {t : Nat → Bool} {xs : List Int} (h : RowIs L S t k xs) (hS : S ≤ 8 * L) : fstN xs (bndI xs (S : Int)) (Bt.bFrom 0) = (List.range S).find? (fun i => !t (k * S + i)) := by
  have hb : bndI xs (S : Int) = S := by
    unfold bndI
    rw [h.1]
    simp
    omega
  have hf : Bt.bFrom 0 = 0 := rfl
  rw [hb, hf]
  unfold fstN
  rw [Nat.sub_zero, ← List.range_eq_range']
  refine find_congr _ ?_
  intro q hq
  rw [h.2.2 q, decide_eq_true (List.mem_range.1 hq)]
  simp
theorem RowIs.cnt {L S k : Nat} {t : Nat → Bool} {xs : List Int} (h : RowIs L S t k xs) (hS : S ≤ 8 * L) : cntN xs (bndI xs (S : Int)) = (List.range S).countP (fun i => t (k * S + i)) := by
  have hb : bndI xs (S : Int) = S := by
    unfold bndI
    rw [h.1]
    simp
    omega
  rw [hb]
  unfold cntN
  refine List.countP_congr ?_
  intro q hq
  rw [h.2.2 q, decide_eq_true (List.mem_range.1 hq)]
  simp
theorem RowIs.put {L S k i : Nat} {t : Nat → Bool} {xs : List Int} {on : Bool} (h : RowIs L S t k xs) (hS : S ≤ 8 * L) (hi : i < S) : RowIs L S (updT t (k * S + i) on) k (withI xs (i : Int) on) := by
  refine ⟨by rw [withI_length]; exact h.1, withI_bound _ _ _ h.2.1, fun q => ?_⟩
  rw [getN_with _ _ _ _ h.2.1, hasI_nat, h.1]
  unfold updT
  by_cases hq : q = i
  · subst hq
    rw [if_pos ⟨by simp; omega, rfl⟩, decide_eq_true hi]
    simp
  · rw [if_neg (fun hc => hq (by omega)), h.2.2 q, if_neg (by omega)]
theorem RowIs.other {L S k m : Nat} {t : Nat → Bool} {xs : List Int} {on : Bool} (h : RowIs L S t k xs) (hm : m / S ≠ k) : RowIs L S (updT t m on) k xs := by
  refine ⟨h.1, h.2.1, fun q => ?_⟩
  rw [h.2.2 q]
  unfold updT
  by_cases hq : q < S
  · rw [if_neg]
    rintro rfl
    apply hm
    rw [Nat.mul_comm, Nat.mul_add_div (by omega), Nat.div_eq_of_lt hq, Nat.add_zero]
  · rw [decide_eq_false hq]
    rfl
theorem div_at {k i S : Nat} (hi : i < S) : (k * S + i) / S = k := by
  rw [Nat.mul_comm, Nat.mul_add_div (by omega), Nat.div_eq_of_lt hi, Nat.add_zero]
theorem mod_at {k i S : Nat} (hi : i < S) : (k * S + i) % S = i := by
  rw [Nat.mul_comm, Nat.mul_add_mod]
  exact Nat.mod_eq_of_lt hi
theorem fstN_some {p : Nat → Bool} {S i : Nat} (h : (List.range S).find? p = some i) : i < S ∧ p i = true ∧ ∀ j, j < i → p j = false := by
  have hm := List.mem_range.1 (List.mem_of_find?_eq_some h)
  refine ⟨hm, List.find?_some h, fun j hj => ?_⟩
  cases hp : p j with
  | false => rfl
  | true =>
    exfalso
    have hx : ∃ m, m ≤ j ∧ p m = true ∧ ∀ q, q < m → p q = false := by
      clear h hm
      induction j using Nat.strongRecOn with
      | _ j ih =>
        by_cases hc : ∃ m, m < j ∧ p m = true
        · obtain ⟨m, h1, h2⟩ := hc
          obtain ⟨m', h3, h4⟩ := ih m h1 (by omega) h2
          exact ⟨m', by omega, h4⟩
        · refine ⟨j, Nat.le_refl _, hp, fun q hq => ?_⟩
          cases hpq : p q with
          | false => rfl
          | true => exact absurd ⟨q, hq, hpq⟩ hc
    obtain ⟨m, h1, h2, h3⟩ := hx
    have := find_range_some (N := S) (by omega) h3 h2
    rw [this] at h
    cases h
    omega
theorem fstN_not {p : Nat → Bool} {S : Nat} (h : (List.range S).find? p = none) : ∀ j, j < S → p j = false := by
  rw [List.find?_eq_none] at h
  intro j hj
  have := h j (List.mem_range.2 hj)
  simpa using this
/-- How many are free, group by group. -/
def freeG (t : Nat → Bool) (S q : Nat) : Nat := freeN t (q * S)
theorem countP_neg (p : Nat → Bool) : ∀ l : List Nat, l.countP p + l.countP (fun n => !p n) = l.length
  | [] => rfl
  | x :: l => by
    have := countP_neg p l
    simp only [List.countP_cons, List.length_cons]
    cases p x <;> simp <;> omega
theorem freeG_step (t : Nat → Bool) (S q : Nat) : (freeG t S (q + 1) : Int) = freeG t S q + ((S : Int) - ((List.range S).countP (fun i => t (q * S + i)) : Nat)) := by
  have e : freeG t S (q + 1) = freeG t S q + (List.range S).countP (fun i => !t (q * S + i)) := by
    unfold freeG freeN
    rw [Nat.add_mul, Nat.one_mul, List.range_eq_range', ← List.range'_append_1, List.countP_append, ← List.range_eq_range', Nat.zero_add, List.range'_eq_map_range, List.countP_map]
    rfl
  have h2 := countP_neg (fun i => t (q * S + i)) (List.range S)
  simp only [List.length_range] at h2
  omega
theorem freeN_le (t : Nat → Bool) (N : Nat) : freeN t N ≤ N := by
  have h : freeN t N ≤ (List.range N).length := List.countP_le_length
  simpa using h
end Go.Proofs.Ytjhfkcngaknbdaa
