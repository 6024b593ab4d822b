/-
  BmapMeta: its walk.
-/
import Derived.Test.YthgekceppaeplaaBmLaw
namespace Go.Proofs.Ythgekceppaeplaa
open Go Go.Proofs Go.RowKit Go.Shelf

theorem owns_LAt2 {w : World} {base : Nat} {v : Value} {n : Nat} {xs : List Int} (h : w.ownsRow base 3 1 v n (Iy xs)) : ∃ ao c, v = .slice ao n c ∧ LAt w ao n xs ∧ ∀ a, ao = some a → base ≤ a.block := by
  rcases Nat.eq_zero_or_pos n with rfl | hn
  · obtain ⟨h1, h2⟩ := h
    rw [Iy_length, Nat.zero_mul] at h1
    rcases h2 with ⟨rfl, _⟩ | ⟨g, cap, cur, rfl, hg, _⟩
    · exact ⟨none, 0, rfl, ⟨h1, fun h => absurd h (Nat.lt_irrefl 0)⟩, fun a e => by cases e⟩
    · exact ⟨_, cap, rfl, ⟨h1, fun h => absurd h (Nat.lt_irrefl 0)⟩, fun a e => by cases e; exact hg⟩
  · obtain ⟨g, c, e, hl, hg⟩ := owns_LAt h hn
    exact ⟨_, c, e, hl, fun a e => by cases e; exact hg⟩
/-- 'append([]int(nil), l...)'. -/
theorem appendi_nil (W : World) (ao : Option Addr) (n c : Nat) (xs : List Int) (h : LAt W ao n xs) (hbig : n ≤ 16777216) (hnone : ao = none → n = 0 ∧ c = 0) :
    ∃ bo d W', (Builtin.append_ #[29, 29] 29 #[.slice none 0 0, .slice ao n c]).run Try.prog W = .ok (.slice bo n d) W' ∧ LAt W' bo n xs ∧ (∀ a, bo = some a → W.heap.size ≤ a.block) ∧ Below W.heap.size W W' := by
  cases ao with
  | none =>
    obtain ⟨rfl, rfl⟩ := hnone rfl
    obtain ⟨i0, hi, hz0, hz1, hz2⟩ := info3p
    exact ⟨none, 0, W, run_append_owned_none (P := Try.prog) W W.heap.size 29 29 3 i0 1 Try.underlying29 hi (.slice none 0 0) 0 [] (World.ownsRow_nil W _ 3 1), h, (fun a e => by cases e), Below.refl _ _⟩
  | some a =>
    obtain ⟨v', W', hr, hown, hb⟩ := appendi_run W W.heap.size (.slice none 0 0) 0 [] (World.ownsRow_nil W _ 3 1) (Nat.le_refl _) a n c xs h (by omega)
    rw [Nat.zero_add, List.nil_append] at hown
    obtain ⟨bo, d, rfl, hl, hg⟩ := owns_LAt2 hown
    exact ⟨bo, d, W', hr, hl, hg, hb⟩
theorem LAt.below {W W' : World} {ao : Option Addr} {n B : Nat} {xs : List Int} (h : LAt W ao n xs) (hb : Below B W W') (hB : W.heap.size ≤ B) : LAt W' ao n xs :=
  h.only (S := fun _ => False) ⟨hb.os, hb.tape, hb.output, hb.size, fun k hk _ => hb.block k (by omega)⟩ (fun _ _ _ h => h)
theorem below_drewN (w : World) (n : Nat) : Below w.heap.size w (w.drewN n) := ⟨rfl, rfl, rfl, Nat.le_refl _, fun _ _ => rfl⟩
theorem below_drewN' (w : World) (n B : Nat) (h : B ≤ w.heap.size) : Below B w (w.drewN n) := (below_drewN w n).mono h
theorem LAt.drewN {W : World} {ao : Option Addr} {n : Nat} {xs : List Int} (h : LAt W ao n xs) (k : Nat) : LAt (W.drewN k) ao n xs := h.below (below_drewN W k) (Nat.le_refl _)

set_option maxRecDepth 100000 in
set_option maxHeartbeats 4000000 in
theorem metalaw_any (w : World) (ao : Option Addr) (n c : Nat) (xs : List Int) (h : LAt w ao n xs) (hn : n ≤ 9223372036854775807) (hnone : ao = none → n = 0 ∧ c = 0) :
    Calls Try.prog 4 #[.slice ao n c] w fun e w' => e = .returned (.bool true) ∧ Below w.heap.size w w' := by
  have HA := Hid.mk (alive_any w)
  have HH := Hid.mk h
  clear h
  by_cases hbig : 500 < n
  · have hb : (500 : Int) < n := by omega
    go_enter Try.func4, Try.ntmps4
    go_wp2_with (go_at_call 8; refine HA.out.mono ?_; rintro e W0 ⟨rfl, hw⟩; have HB := Hid.mk hw; clear hw)
    go_ret
    exact ⟨rfl, HB.out⟩
  · have hb : ¬ (500 : Int) < n := by omega
    have hb2 : (n : Int) ≤ 500 := by omega
    have HN := Hid.mk hnone
    clear hnone
    have HE : Hid (∀ W0, Below w.heap.size w W0 → ∃ bo d W1, (Builtin.append_ #[29, 29] 29 #[.slice none 0 0, .slice ao n c]).run Try.prog W0 = .ok (.slice bo n d) W1 ∧ LAt W1 bo n xs ∧ LAt W1 ao n xs ∧ Below w.heap.size w W1) := Hid.mk (fun W0 hB => by
      have hl := HH.out.below hB (Nat.le_refl _)
      obtain ⟨bo, d, W1, hr, h1, h2, h3⟩ := appendi_nil W0 ao n c xs hl (by omega) HN.out
      exact ⟨bo, d, W1, hr, h1, hl.below h3 (Nat.le_refl _), hB.trans (h3.mono hB.size)⟩)
    go_enter Try.func4, Try.ntmps4
    go_wp2_with (first
      | (go_at_call 8; refine HA.out.mono ?_; rintro e W0 ⟨rfl, hw⟩; obtain ⟨bo, d, W1, hr, h1, h2, h3⟩ := HE.out W0 hw; have HR := Hid.mk hr; have HL1 := Hid.mk h1; have HL2 := Hid.mk h2; have HB1 := Hid.mk h3; clear hw hr h1 h2 h3)
      | (at_builtin; refine wpList_append_known rfl _ _ _ rfl _ _ _ _ rfl rfl HR.out ?_; simp only [Act.put, List.setIfInBounds_toArray, List.set_cons_zero, List.set_cons_succ])
      | (go_at_call 15; refine (meta_any _ _ _ _ xs HL1.out (by omega)).mono ?_; rintro e W2 ⟨rfl, hw⟩; have HL3 := Hid.mk (HL1.out.below hw (Nat.le_refl _)); have HL4 := Hid.mk (HL2.out.below hw (Nat.le_refl _)); have HB2 := Hid.mk (HB1.out.trans (hw.mono HB1.out.size)); clear hw))
    go_loopw [6] (fun i wr => ∃ k : Nat, k ≤ n ∧ i = .int .i64 k ∧ LAt wr bo n xs ∧ LAt wr ao n xs ∧ Below w.heap.size w wr) (fun i _ => n - (intOf i).toNat)
    case atStart => exact ⟨0, by omega, rfl, HL3.out, HL4.out, HB2.out⟩
    case round =>
      obtain ⟨k, hk, rfl, hl1, hl2, hbl⟩ := hrel
      have HL1 := Hid.mk hl1
      have HL2 := Hid.mk hl2
      have HB := Hid.mk hbl
      clear hl1 hl2 hbl
      by_cases hlt : k < n
      · have hi : (k : Int) < n := by omega
        have hw1 : IntKind.i64.wrap ((k : Int) + 1) = (k : Int) + 1 := by rw [IntKind.wrap_i64]; omega
        obtain ⟨a1, e1, c1⟩ := HL1.out.at k hlt
        obtain ⟨a2, e2, c2⟩ := HL2.out.at k hlt
        subst e1
        subst e2
        generalize xs.getD k 0 = x at *
        go_wp2
        go_quiet (fail)
        go_wp2
        go_roundw
        case rel => exact ⟨k + 1, by omega, by go_num, HL1.out.drewN _, HL2.out.drewN _, HB.out.trans (below_drewN' _ _ _ HB.out.size)⟩
        case measure => simp [intOf]; omega
      · have hi : ¬ (k : Int) < n := by omega
        have hi2 : (n : Int) ≤ k := by omega
        go_wp2_with (go_at_call 16; refine (rmeta_any _ _ _ _ xs HL2.out (by omega)).mono ?_; rintro e W3 ⟨rfl, hw⟩; have HB3 := Hid.mk (HB.out.trans (hw.mono HB.out.size)); clear hw)
        go_ret
        exact ⟨rfl, HB3.out⟩
end Go.Proofs.Ythgekceppaeplaa
