/-
  The document's example.
-/
import Derived.Test.YthmbhcmicebcpaaDpO
namespace Go.Proofs.Ythmbhcmicebcpaa
open Go Go.Proofs Go.RowKit Go.Shelf
theorem a1_eq : newD.abs.add 7 [] = ⟨1, updC (fun _ => none) 0 (some ⟨7, [], []⟩), updC (fun _ => none) 7 (some ⟨[0], []⟩), 1, 1, true, true⟩ := by
  simp [Ga.add, opens, Ga.keep, Ga.lay, Ga.bufd, Ga.sort, newD, Gd.abs, updC_same, updC_twice, insS]
theorem a2_eq : (newD.abs.add 7 []).add 8 [0] = ⟨2, updC (updC (fun _ => none) 0 (some ⟨7, [], [1]⟩)) 1 (some ⟨8, [0], []⟩), updC (updC (fun _ => none) 7 (some ⟨[0], []⟩)) 8 (some ⟨[], [1]⟩), 2, 2, true, true⟩ := by
  rw [a1_eq]
  have e : opens ⟨1, updC (fun _ => none) 0 (some ⟨7, [], []⟩), updC (fun _ => none) 7 (some ⟨[0], []⟩), 1, 1, true, true⟩ [0] = [0] := by
    unfold opens
    simp [updC_same]
  unfold Ga.add
  rw [e]
  have h8 : updC (fun _ => none) 7 (some (⟨[0], []⟩ : Ba)) 8 = none := by rw [updC_other _ _ (by omega)]
  simp [addStep, Ga.hang, Ga.keep, Ga.lay, Ga.bufd, Ga.sort, updC_same, updC_twice, insS, h8]
theorem updC_cases {α : Type} {f : Int → Option α} {i j : Int} {o : Option α} {x : α} (h : updC f i o j = some x) : (j = i ∧ o = some x) ∨ (j ≠ i ∧ f j = some x) := by
  by_cases e : j = i
  · subst e
    rw [updC_same] at h
    exact .inl ⟨rfl, h⟩
  · rw [updC_other _ _ e] at h
    exact .inr ⟨e, h⟩
theorem wf7 (x : Int) (h : 0 ≤ x ∧ x ≤ 1000) : (Lit.int .i64 x).wf = true := wf_small (n := 1001) ⟨h.1, by omega⟩ (by omega)
theorem a0_fit : newD.abs.Fit := by
  refine ⟨⟨by show (0 : Nat) ≤ _; omega, fun i c h => (by cases h), fun b x h => (by cases h)⟩, rfl, by show (0 : Nat) < _; omega, by show (0 : Nat) < _; omega, by show (0 : Nat) < _; omega, fun y c h => (by cases h)⟩
theorem a1_fit : (newD.abs.add 7 []).Fit := by
  rw [a1_eq]
  refine ⟨⟨by show (1 : Nat) ≤ _; omega, fun i c h => ?_, fun b x h => ?_⟩, rfl, by show (1 : Nat) < _; omega, by show (1 : Nat) < _; omega, by show (1 : Nat) < _; omega, fun y c h => ?_⟩
  · (try dsimp only at h); rcases updC_cases h with ⟨rfl, h⟩ | ⟨_, h⟩
    · cases h
      exact ⟨by simp, wf7 7 (by omega), by dsimp only; rw [updC_same]; rfl⟩
    · cases h
  · (try dsimp only at h); rcases updC_cases h with ⟨rfl, h⟩ | ⟨_, h⟩
    · cases h
      exact ⟨by simp, by simp⟩
    · cases h
  · (try dsimp only at h); rcases updC_cases h with ⟨rfl, h⟩ | ⟨_, h⟩
    · cases h
      simp
    · cases h
theorem a2_fit : ((newD.abs.add 7 []).add 8 [0]).Fit := by
  rw [a2_eq]
  have b7 : (updC (updC (fun _ => none) 7 (some (⟨[0], []⟩ : Ba))) 8 (some ⟨[], [1]⟩) 7) = some ⟨[0], []⟩ := by rw [updC_other _ _ (by omega), updC_same]
  refine ⟨⟨by show (2 : Nat) ≤ _; omega, fun i c h => ?_, fun b x h => ?_⟩, rfl, by show (2 : Nat) < _; omega, by show (2 : Nat) < _; omega, by show (2 : Nat) < _; omega, fun y c h => ?_⟩
  · (try dsimp only at h); rcases updC_cases h with ⟨rfl, h⟩ | ⟨_, h⟩
    · cases h
      exact ⟨by simp, wf7 8 (by omega), by dsimp only; rw [updC_same]; rfl⟩
    · (try dsimp only at h); rcases updC_cases h with ⟨rfl, h⟩ | ⟨_, h⟩
      · cases h
        exact ⟨by simp, wf7 7 (by omega), by dsimp only; rw [b7]; rfl⟩
      · cases h
  · (try dsimp only at h); rcases updC_cases h with ⟨rfl, h⟩ | ⟨_, h⟩
    · cases h
      exact ⟨by simp, by simp⟩
    · (try dsimp only at h); rcases updC_cases h with ⟨rfl, h⟩ | ⟨_, h⟩
      · cases h
        exact ⟨by simp, by simp⟩
      · cases h
  · (try dsimp only at h); rcases updC_cases h with ⟨rfl, h⟩ | ⟨_, h⟩
    · cases h
      simp
    · (try dsimp only at h); rcases updC_cases h with ⟨rfl, h⟩ | ⟨_, h⟩
      · cases h
        simp
      · cases h
theorem a2_ready (x : Int) : x ∈ ([7] : List Int) ↔ ∃ bx, ((newD.abs.add 7 []).add 8 [0]).bf x = some bx ∧ bx.nx ≠ [] := by
  rw [a2_eq]
  constructor
  · intro h
    rw [List.mem_singleton.1 h]
    exact ⟨⟨[0], []⟩, by dsimp only; rw [updC_other _ _ (by omega), updC_same], by simp⟩
  · rintro ⟨bx, h, hn⟩
    (try dsimp only at h); rcases updC_cases h with ⟨rfl, h⟩ | ⟨_, h⟩
    · cases h
      exact absurd rfl hn
    · (try dsimp only at h); rcases updC_cases h with ⟨rfl, h⟩ | ⟨_, h⟩
      · simp
      · cases h
theorem a2_blocked : ((((newD.abs.add 7 []).add 8 [0]).bf 8).map (·.bl)).getD [] = [1] := by
  rw [a2_eq]
  dsimp only
  rw [updC_same]
  rfl
theorem lat_one (W : World) (x : Int) : LAt (W.alloc (.cells #[.int .i64 x] 3)) (some ⟨W.heap.size, 0, none⟩) 1 [x] := by
  have hb := blk_new W (.cells #[.int .i64 x] 3)
  refine ⟨rfl, fun _ => ⟨_, rfl, lt_of_block hb, fun j hj => ?_⟩⟩
  obtain rfl : j = 0 := by omega
  rw [add_at, blk_cell hb]
  rfl
set_option maxRecDepth 100000 in
set_option maxHeartbeats 4000000 in
theorem alive_any (w : World) : Calls Try.prog 9 #[] w fun e w' => e = .returned (.bool true) ∧ Below w.heap.size w w' := by
  have HNEW := Hid.mk (o_new (Below.refl w.heap.size w))
  have HADD1 : Hid (∀ W g, DpO (fun _ => False) w W g newD.abs → Calls Try.prog 27 #[ptV g, .int .i64 7, .slice none 0 0] W fun e W' => e = .returned (.tuple #[.int .i64 0, .int .i64 0]) ∧ DpO (fun _ => False) w W' g (newD.abs.add 7 [])) := Hid.mk (fun W g h => (o_add h a0_fit 7 (wf7 7 (by omega)) none 0 0 [] ⟨rfl, fun h => by omega⟩ (by omega) (fun a e => by cases e) rfl).mono (by
    rintro e W' ⟨rfl, h', _⟩
    exact ⟨rfl, h'⟩))
  have HADD2 : Hid (∀ W g, DpO (fun _ => False) w W g (newD.abs.add 7 []) → Calls Try.prog 27 #[ptV g, .int .i64 8, .slice (some ⟨W.heap.size, 0, none⟩) 1 1] (W.alloc (.cells #[.int .i64 0] 3)) fun e W' => e = .returned (.tuple #[.int .i64 1, .int .i64 0]) ∧ DpO (fun _ => False) w W' g ((newD.abs.add 7 []).add 8 [0])) := Hid.mk (fun W g h => by
    have hs := h.bel.size
    have h2 : DpO (fun k => k = W.heap.size) w (W.alloc (.cells #[.int .i64 0] 3)) g (newD.abs.add 7 []) := h.side ((Only.refl (fun _ => False) W).alloc _) (fun _ h => h.elim) (fun k hk => by subst hk; exact ⟨by simp, .inr (Nat.le_refl _)⟩)
    have had : (newD.abs.add 7 []).added = 1 := by rw [a1_eq]
    refine (o_add h2 a1_fit 8 (wf7 8 (by omega)) _ 1 1 [0] (lat_one W 0) (by omega) (fun a e _ => by cases e; rfl) (by rw [had]; rfl)).mono ?_
    rintro e W' ⟨rfl, h', _⟩
    rw [had]
    exact ⟨rfl, h'.side (Only.refl (fun _ => False) W') (fun _ h => h.elim) (fun k hk => hk.elim)⟩)
  have HREADY : Hid (∀ W g, DpO (fun _ => False) w W g ((newD.abs.add 7 []).add 8 [0]) → Calls Try.prog 22 #[ptV g] W fun e W' => ∃ ao c, e = .returned (.slice ao 1 c) ∧ Hid (LAt W' ao 1 [7] ∧ DpO (fun _ => False) w W' g ((newD.abs.add 7 []).add 8 [0]))) := Hid.mk (fun W g h => (o_ready h a2_fit (by rw [a2_eq]) [7] ⟨by simp, fun x hx => (by rw [List.mem_singleton.1 hx]; exact wf7 7 (by omega))⟩ a2_ready).mono (by
    rintro e W' ⟨v, rfl, hr, hB⟩
    obtain ⟨ao, c, rfl, hl⟩ := owns_lat hr
    exact ⟨ao, c, rfl, Hid.mk ⟨hl, h.grow hB⟩⟩))
  have HBLOCK : Hid (∀ W g, DpO (fun _ => False) w W g ((newD.abs.add 7 []).add 8 [0]) → Calls Try.prog 18 #[ptV g, .int .i64 8] W fun e W' => ∃ ao c, e = .returned (.slice ao 1 c) ∧ Hid (LAt W' ao 1 [1] ∧ DpO (fun _ => False) w W' g ((newD.abs.add 7 []).add 8 [0]))) := Hid.mk (fun W g h => (o_blocked h a2_fit.ok (wf7 8 (by omega))).mono (by
    rintro e W' ⟨v, rfl, hr, hB⟩
    rw [a2_blocked] at hr
    obtain ⟨ao, c, rfl, hl⟩ := owns_lat hr
    exact ⟨ao, c, rfl, Hid.mk ⟨hl, h.grow hB⟩⟩))
  have HSAME : Hid (∀ W ao c x g, LAt W ao 1 [x] → DpO (fun _ => False) w W g ((newD.abs.add 7 []).add 8 [0]) → Calls Try.prog 15 #[.slice ao 1 c, .slice (some ⟨W.heap.size, 0, none⟩) 1 1] (W.alloc (.cells #[.int .i64 x] 3)) fun e W' => e = .returned (.bool true) ∧ DpO (fun _ => False) w W' g ((newD.abs.add 7 []).add 8 [0])) := Hid.mk (fun W ao c x g hl h => by
    have hB : Below W.heap.size W (W.alloc (.cells #[.int .i64 x] 3)) := (Below.refl _ W).alloc (Nat.le_refl _) _
    refine (sameints_any _ ao _ 1 1 c 1 [x] [x] (hl.next hB) (lat_one W x) (by omega) (by omega)).mono ?_
    rintro e W' ⟨rfl, hB2⟩
    exact ⟨by simp, (h.grow hB).grow hB2⟩)
  have HNUM := Hid.mk num_any
  obtain ⟨gg, hgg⟩ : ∃ gg, gg = w.heap.size := ⟨_, rfl⟩
  rw [← hgg] at HNEW
  have HGG := Hid.mk hgg
  clear hgg
  go_enter Try.func9, Try.ntmps9
  go_wp2_with (first
    | (go_at_call 28; refine HNEW.out.mono ?_; rintro e w1 ⟨rfl, h1⟩; have H1 := Hid.mk h1; clear h1 HNEW)
    | (go_at_call 27; refine (HADD1.out _ _ H1.out).mono ?_; rintro e w2 ⟨rfl, h2⟩; have H2 := Hid.mk h2; clear h2 H1)
    | (go_at_call 27; refine (HADD2.out _ _ H2.out).mono ?_; rintro e w3 ⟨rfl, h3⟩; have H3 := Hid.mk h3; clear h3 H2)
    | (go_at_call 29; refine (HNUM.out _ _).mono ?_; rintro e w4 ⟨rfl, hw4⟩; have hw4' := hw4.symm; clear hw4; subst hw4')
    | (go_at_call 22; refine (HREADY.out _ _ H3.out).mono ?_; rintro e w5 ⟨ao5, c5, rfl, H5⟩)
    | (go_at_call 15; refine (HSAME.out _ _ _ _ _ H5.out.1 H5.out.2).mono ?_; rintro e w6 ⟨rfl, h6⟩; have H6 := Hid.mk h6; clear h6 H5)
    | (go_at_call 18; refine (HBLOCK.out _ _ H6.out).mono ?_; rintro e w7 ⟨ao7, c7, rfl, H7⟩)
    | (go_at_call 15; refine (HSAME.out _ _ _ _ _ H7.out.1 H7.out.2).mono ?_; rintro e w8 ⟨rfl, h8⟩; have H8 := Hid.mk h8; clear h8 H7))
  go_ret
  exact ⟨rfl, H8.out.bel⟩
end Go.Proofs.Ythmbhcmicebcpaa
