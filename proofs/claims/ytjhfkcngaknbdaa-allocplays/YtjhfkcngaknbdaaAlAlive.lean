/-
  The document's example; things given out in turn.
-/
import Derived.Test.YtjhfkcngaknbdaaAlNew
namespace Go.Proofs.Ytjhfkcngaknbdaa
open Go Go.Proofs Go.RowKit Go.Shelf

theorem rot_back {N base j : Nat} (hb : base < N) (hj : j < N) : ((base + j) % N + (N - base)) % N = j := by
  rcases Nat.lt_or_ge (base + j) N with h | h
  · rw [Nat.mod_eq_of_lt h, show base + j + (N - base) = j + N by omega, Nat.add_mod_right, Nat.mod_eq_of_lt hj]
  · rw [Nat.mod_eq_sub_mod h, Nat.mod_eq_of_lt (show base + j - N < N by omega), show base + j - N + (N - base) = j by omega, Nat.mod_eq_of_lt hj]
theorem rot_fwd {N base n : Nat} (hb : base < N) (hn : n < N) : (base + (n + (N - base)) % N) % N = n := by
  rcases Nat.lt_or_ge (n + (N - base)) N with h | h
  · rw [Nat.mod_eq_of_lt h, show base + (n + (N - base)) = n + N by omega, Nat.add_mod_right, Nat.mod_eq_of_lt hn]
  · rw [Nat.mod_eq_sub_mod h, Nat.mod_eq_of_lt (show n + (N - base) - N < N by omega), show base + (n + (N - base) - N) = n by omega, Nat.mod_eq_of_lt hn]
/-- The first k from base on are taken, round. -/
def Rnd (t : Nat → Bool) (N base k : Nat) : Prop := ∀ n, n < N → t n = decide ((n + (N - base)) % N < k)
theorem Rnd.zero (N base : Nat) : Rnd noT N base 0 := fun n _ => by simp [noT]
theorem Rnd.next {t : Nat → Bool} {N base k : Nat} (h : Rnd t N base k) (hb : base < N) (hk : k < N) : nextN t N base = some ((base + k) % N) := by
  have hm : ∀ j, j < N → (base + j) % N < N := fun j _ => Nat.mod_lt _ (by omega)
  refine next_some hk (fun j hj => ?_) ?_
  · rw [h _ (hm j (by omega)), rot_back hb (by omega)]; simpa using hj
  · rw [h _ (hm k hk), rot_back hb hk]; simp
theorem Rnd.step {t : Nat → Bool} {N base k : Nat} (h : Rnd t N base k) (hb : base < N) (hk : k < N) : Rnd (updO t (some ((base + k) % N))) N base (k + 1) := by
  intro n hn
  unfold updO updT
  by_cases e : n = (base + k) % N
  · dsimp only
    rw [if_pos e, e, rot_back hb hk]; simp
  · dsimp only
    rw [if_neg e, h n hn]
    have : (n + (N - base)) % N ≠ k := fun e2 => e (by rw [← e2, rot_fwd hb hn])
    by_cases h2 : (n + (N - base)) % N < k
    · rw [decide_eq_true h2, decide_eq_true (by omega)]
    · rw [decide_eq_false h2, decide_eq_false (by omega)]
theorem grp_in {G f : Nat} (h : f < G) : grpOf G (f : Int) = f := by unfold grpOf; rw [if_pos ⟨by omega, by omega⟩]; simp
theorem next_ex : nxI 2 1 noT 1 = some 16 := by
  have e : nxI 2 1 noT 1 = nextN noT 32 16 := rfl
  rw [e, (Rnd.zero 32 16).next (by omega) (by omega)]
set_option maxRecDepth 100000 in
theorem alive_any (w : World) : Calls Try.prog 7 #[] w fun e w' => e = .returned (.bool true) ∧ Below w.heap.size w w' := by
  have HN : Hid (Calls Try.prog 9 #[.agg #[.int .i64 2, .int .i64 1, .int .i64 8]] w fun e w' => ∃ b, e = .returned (.pointer (some ⟨b, 0, none⟩)) ∧ Hid (w.heap.size ≤ b ∧ AlAt w' b 2 1 8 noT noT ∧ Below w.heap.size w w')) := Hid.mk (by
    refine (new_yes w 2 1 8 (by decide)).mono ?_
    rintro e w' ⟨b, rfl, h⟩
    exact ⟨b, rfl, Hid.mk h⟩)
  have HI : Hid (∀ W b, AlAt W b 2 1 8 noT noT → Calls Try.prog 11 #[.pointer (some ⟨b, 0, none⟩), .int .i64 1] W fun e w' => e = .returned (.tuple #[.int .i64 17, .bool true]) ∧ Only (fun k => k = b) W w') := Hid.mk (fun W b h => by
    refine (inode_any W b 2 1 8 noT noT h 1).mono ?_
    rintro e w' ⟨rfl, _, hO⟩
    rw [next_ex]
    exact ⟨rfl, hO⟩)
  go_enter Try.func7, Try.ntmps7
  go_wp2_with (first
    | (go_at_call 9; refine HN.out.mono ?_; rintro e w1 ⟨b, rfl, H1⟩)
    | (go_at_call 11; refine (HI.out _ _ H1.out.2.1).mono ?_; rintro e w2 ⟨rfl, hO2⟩))
  go_ret
  obtain ⟨hb, hA, hB⟩ := H1.out
  exact ⟨rfl, hB.trans (hO2.below hB.size (fun k e => by omega))⟩
end Go.Proofs.Ytjhfkcngaknbdaa
